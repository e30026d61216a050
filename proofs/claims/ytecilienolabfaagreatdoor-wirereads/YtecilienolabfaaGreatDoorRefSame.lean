/- The contract of the document's Same. -/
import Derived.Test.YtecilienolabfaaGreatDoorRefState
import Derived.Test.YtecilienolabfaaGreatDoorLogSame
import Derived.Test.YtecilienolabfaaGreatDoorPackRun
namespace Go.Proofs.YtecilienolabfaaGreatDoor
set_option linter.unusedSimpArgs false
set_option linter.unusedVariables false
set_option maxRecDepth 100000
open Go.RowKit
theorem at_g5 {P:Program} {ops:Array Oper} {rest:List Oper} {d:Option Tmp} {op:Op} {t:TypeId} {p:String} {af:Array Edge} {a:Act} {w:World} {Q:Exit → Act → World → Prop} (h:wpList P ops Q (⟨d,op,t,p,af,some (5,false)⟩ :: rest) a w):wpList P ops Q (⟨d,op,t,p,af,some (5,false)⟩ :: rest) a w:=h
theorem at_g12 {P:Program} {ops:Array Oper} {rest:List Oper} {d:Option Tmp} {op:Op} {t:TypeId} {p:String} {af:Array Edge} {a:Act} {w:World} {Q:Exit → Act → World → Prop} (h:wpList P ops Q (⟨d,op,t,p,af,some (12,false)⟩ :: rest) a w):wpList P ops Q (⟨d,op,t,p,af,some (12,false)⟩ :: rest) a w:=h
set_option maxHeartbeats 4000000 in
theorem xfz (s t:StV) (ao bo:Option Addr) (c d:Nat) (w:World) (hs:StOk s) (ht:StOk t) (h:Sl w ao c 8 (entR s.log)) (h':Sl w bo d 8 (entR t.log)) :
  Calls Tryz.prog 23 #[.agg (stC s ao c),.agg (stC t bo d)] w fun en w'=>en = .returned (.bool (same tSt s t)) ∧ Below w.heap.size w w':=by
 obtain ⟨w1,hw1,hX,hY,hb⟩:=xbl w 44 44 (stC s ao c) (stC t bo d)
 have hM:Hid _:=same_parts s t
 have hle:=h.ent_le
 have hcap:=h.cap
 have hle':=h'.ent_le
 have hcap':=h'.cap
 have x0:=hX.st_started
 have y0:=hY.st_started
 have xb:=hX.st_base
 have yb:=hY.st_base
 have xt:=hX.st_tail
 have yt:=hY.st_tail
 have xl:=hX.st_log
 have yl:=hY.st_log
 have e1:=fun W=>neqv_base s.base t.base hs.base ht.base W
 have e2:=fun W=>neqv_ent s.tail t.tail hs.tail ht.tail W
 have d1:=hs.started
 have d2:=ht.started
 by_cases h1:s.started = t.started
 ·rw [decide_eq_true h1] at hM
  rw [← h1] at y0 d2
  replace h1:Hid _:=h1
  cases h2:same tBase s.base t.base with
  | false =>
   rw [h2] at hM e1
   go_enter Tryz.func23,Tryz.ntmps23
   go_wp2_with (first
    | ((with_reducible refine at_g5 ?_);refine xae (by rfl) 37 _ rfl w.heap.size 1 rfl (baseL s.base) _ ?hg Tryz.underlying37 rfl (xcl _) ?_;(case hg=>exact xb))
    | ((with_reducible refine at_g5 ?_);refine xae (by rfl) 37 _ rfl (w.heap.size + 1) 1 rfl (baseL t.base) _ ?hg Tryz.underlying37 rfl (xcl _) ?_;(case hg=>exact yb))
    | ((with_reducible refine at_g12 ?_);refine xae (by rfl) 41 _ rfl w.heap.size 40 rfl (entL s.tail) _ ?hg Tryz.underlying41 rfl (xax _) ?_;(case hg=>exact xt))
    | ((with_reducible refine at_g12 ?_);refine xae (by rfl) 41 _ rfl (w.heap.size + 1) 40 rfl (entL t.tail) _ ?hg Tryz.underlying41 rfl (xax _) ?_;(case hg=>exact yt))
    | ((with_reducible refine at_g5 ?_);refine xbc (by rfl) .neq 37 _ _ _ rfl (baseC s.base) (baseC t.base) rfl rfl (.bool true) xfj ?hg ?_;(case hg=>exact e1 _))
    | ((with_reducible refine at_g12 ?_);refine xbc (by rfl) .neq 41 _ _ _ rfl (entC s.tail) (entC t.tail) rfl rfl (.bool true) xdv ?hg ?_;(case hg=>exact e2 _))
    | fail)
   go_ret
   exact ⟨by rw [hM.out];rfl,hb⟩
  | true =>
   rw [h2] at hM e1
   cases h3:same tEnt s.tail t.tail with
   | false =>
    rw [h3] at hM e2
    go_enter Tryz.func23,Tryz.ntmps23
    go_wp2_with (first
     | ((with_reducible refine at_g5 ?_);refine xae (by rfl) 37 _ rfl w.heap.size 1 rfl (baseL s.base) _ ?hg Tryz.underlying37 rfl (xcl _) ?_;(case hg=>exact xb))
     | ((with_reducible refine at_g5 ?_);refine xae (by rfl) 37 _ rfl (w.heap.size + 1) 1 rfl (baseL t.base) _ ?hg Tryz.underlying37 rfl (xcl _) ?_;(case hg=>exact yb))
     | ((with_reducible refine at_g12 ?_);refine xae (by rfl) 41 _ rfl w.heap.size 40 rfl (entL s.tail) _ ?hg Tryz.underlying41 rfl (xax _) ?_;(case hg=>exact xt))
     | ((with_reducible refine at_g12 ?_);refine xae (by rfl) 41 _ rfl (w.heap.size + 1) 40 rfl (entL t.tail) _ ?hg Tryz.underlying41 rfl (xax _) ?_;(case hg=>exact yt))
     | ((with_reducible refine at_g5 ?_);refine xbc (by rfl) .neq 37 _ _ _ rfl (baseC s.base) (baseC t.base) rfl rfl (.bool false) xfj ?hg ?_;(case hg=>exact e1 _))
     | ((with_reducible refine at_g12 ?_);refine xbc (by rfl) .neq 41 _ _ _ rfl (entC s.tail) (entC t.tail) rfl rfl (.bool true) xdv ?hg ?_;(case hg=>exact e2 _))
     | fail)
    go_ret
    exact ⟨by rw [hM.out];rfl,hb⟩
   | true =>
    rw [h3] at hM e2
    by_cases hlen:s.log.length = t.log.length
    ·have hI:((s.log.length:Int) != (t.log.length:Int)) = false:=by simp [hlen]
     have hN:(s.log.length != t.log.length) = false:=by simp [hlen]
     replace hlen:Hid _:=hlen
     go_enter Tryz.func23,Tryz.ntmps23
     go_wp2_with (first
      | ((with_reducible refine at_g5 ?_);refine xae (by rfl) 37 _ rfl w.heap.size 1 rfl (baseL s.base) _ ?hg Tryz.underlying37 rfl (xcl _) ?_;(case hg=>exact xb))
      | ((with_reducible refine at_g5 ?_);refine xae (by rfl) 37 _ rfl (w.heap.size + 1) 1 rfl (baseL t.base) _ ?hg Tryz.underlying37 rfl (xcl _) ?_;(case hg=>exact yb))
      | ((with_reducible refine at_g12 ?_);refine xae (by rfl) 41 _ rfl w.heap.size 40 rfl (entL s.tail) _ ?hg Tryz.underlying41 rfl (xax _) ?_;(case hg=>exact xt))
      | ((with_reducible refine at_g12 ?_);refine xae (by rfl) 41 _ rfl (w.heap.size + 1) 40 rfl (entL t.tail) _ ?hg Tryz.underlying41 rfl (xax _) ?_;(case hg=>exact yt))
      | ((with_reducible refine at_g5 ?_);refine xbc (by rfl) .neq 37 _ _ _ rfl (baseC s.base) (baseC t.base) rfl rfl (.bool false) xfj ?hg ?_;(case hg=>exact e1 _))
      | ((with_reducible refine at_g12 ?_);refine xbc (by rfl) .neq 41 _ _ _ rfl (entC s.tail) (entC t.tail) rfl rfl (.bool false) xdv ?hg ?_;(case hg=>exact e2 _))
      | fail)
     clear x0 y0 xb yb xt yt xl yl e1 e2
     go_loopw [5] (fun i wr=>∃ n:Nat,n ≤ s.log.length ∧ i = .int .i64 n ∧ Has wr w.heap.size 44 (stC s ao c) ∧ Has wr (w.heap.size + 1) 44 (stC t bo d) ∧ Below w.heap.size w wr ∧ Hid (s.log.take n = t.log.take n)) (fun i _=>s.log.length - (intOf i).toNat)
     case atStart=>exact ⟨0,Nat.zero_le _,rfl,hX,hY,hb,rfl⟩
     case round =>
      clear hX hY hb
      obtain ⟨n,hn,rfl,hX,hY,hb,hc⟩:=hrel
      have xl:=hX.st_log
      by_cases hlt:n < s.log.length
      ·have hlt':n < t.log.length:=by have:=hlen.out;omega
       cases ao with
       | none=>have:=h.nil rfl;omega
       | some ad =>
       cases bo with
       | none=>have:=h'.nil rfl;omega
       | some bd =>
        have hx:=fun W (hW:Below wr.heap.size wr W)=>ent_at (h.later (hb.trans (hW.mono hb.size))) n hlt
        have hy:=fun W (hW:Below wr.heap.size wr W)=>ent_at (h'.later (hb.trans (hW.mono hb.size))) n hlt'
        have hxo:=hs.log s.log[n] (List.getElem_mem hlt)
        have hyo:=ht.log t.log[n] (List.getElem_mem hlt')
        have hnext:Hid _:=same_take s.log t.log n hlt hlt'
        have hno:Hid (s.log[n] ≠ t.log[n] → same tRows s.log t.log = false):=fun hne=>same_not (fun e=>hne (by
         have:∀ (l m:List EntV) (hl:n < l.length) (hm:n < m.length),l = m → l[n] = m[n]:=fun l m hl hm e=>by subst e;rfl
         exact this _ _ hlt hlt' e))
        have hltI:(n:Int) < (s.log.length:Int):=by omega
        have hltJ:(n:Int) < (t.log.length:Int):=by omega
        generalize s.log[n] = x at *
        generalize t.log[n] = y at *
        have heq:=fun W=>neqv_ent x y hxo hyo W
        have hbA:Below wr.heap.size wr wr.drew:=(Below.refl _ _).drew
        go_wp2
        refine xas (fun W=>Below wr.heap.size wr W) (Plan.of [(0,true),(1,true),(2,true),(3,true),(4,true),(5,true),(6,true),(7,true),(8,true),(9,true),(10,true)] .done) (by kernel_rfl) (by kernel_rfl) (by kernel_rfl) (by kernel_rfl) hbA ?_
        iterate 1
         first
          | (refine xad _ rfl (by rfl) ?_)
          | (refine xaa _ _ rfl (.inl ⟨by rfl,fun W hS=>by clear hS;go_simp;try with_reducible rfl⟩) ?_)
         try simp only [qp,qa,qb,qc]
        iterate 1
         first
          | (refine xad _ rfl (by rfl) ?_)
          | (refine xaa _ _ rfl (.inl ⟨by rfl,fun W hS=>by have z0:=(hX.later hS).st_log;go_simp;try with_reducible rfl⟩) ?_)
         try simp only [qp,qa,qb,qc]
        iterate 2
         first
          | (refine xad _ rfl (by rfl) ?_)
          | (refine xaa _ _ rfl (.inl ⟨by rfl,fun W hS=>by clear hS;go_simp;try with_reducible rfl⟩) ?_)
         try simp only [qp,qa,qb,qc]
        refine xaa _ _ rfl (.inl ⟨by rfl,fun W hW=>xdy 41 _ rfl _ rfl (entL x) _ (hx W hW) Tryz.underlying41 rfl (xax x)⟩) ?_
        try simp only [qp,qa,qb,qc]
        iterate 1
         first
          | (refine xad _ rfl (by rfl) ?_)
          | (refine xaa _ _ rfl (.inl ⟨by rfl,fun W hS=>by clear hS;go_simp;try with_reducible rfl⟩) ?_)
         try simp only [qp,qa,qb,qc]
        iterate 1
         first
          | (refine xad _ rfl (by rfl) ?_)
          | (refine xaa _ _ rfl (.inl ⟨by rfl,fun W hS=>by have z0:=(hY.later hS).st_log;go_simp;try with_reducible rfl⟩) ?_)
         try simp only [qp,qa,qb,qc]
        iterate 2
         first
          | (refine xad _ rfl (by rfl) ?_)
          | (refine xaa _ _ rfl (.inl ⟨by rfl,fun W hS=>by clear hS;go_simp;try with_reducible rfl⟩) ?_)
         try simp only [qp,qa,qb,qc]
        refine xaa _ _ rfl (.inl ⟨by rfl,fun W hW=>xdy 41 _ rfl _ rfl (entL y) _ (hy W hW) Tryz.underlying41 rfl (xax y)⟩) ?_
        try simp only [qp,qa,qb,qc]
        refine xaa _ _ rfl (xbh (by rfl) .neq 41 _ _ _ rfl (entC x) (entC y) rfl rfl (.bool (!same tEnt x y)) xdv heq) ?_
        try simp only [qp,qa,qb,qc]
        refine xbf ?_
        have hX2:=hX.later hbA
        have hY2:=hY.later hbA
        have hb2:=hb.trans (hbA.mono hb.size)
        clear hx hy heq hbA
        cases hsm:same tEnt x y with
        | false =>
         have hF:Hid _:=hno.out (fun e=>by rw [(xcn x y).2 e] at hsm;cases hsm)
         go_wp2
         go_ret
         exact ⟨by rw [hM.out,hF.out];rfl,hb2⟩
        | true =>
         have hF:Hid _:=hnext.out.2 ⟨hc.out,(xcn x y).1 hsm⟩
         go_wp2
         go_roundw
         case rel=>exact ⟨n + 1,by omega,by go_num,hX2,hY2,hb2,hF⟩
         case measure=>simp [intOf];omega
      ·have e5:n = s.log.length:=by omega
       subst e5
       have hF:Hid (same tRows s.log t.log = true):=(xcn s.log t.log).2 (by
        have h2:=hlen.out
        have h3:=hc.out
        rw [List.take_length,h2,List.take_length] at h3
        exact h3)
       clear hc
       go_wp2
       go_ret
       exact ⟨by rw [hM.out,hF.out];rfl,hb⟩
    ·have hI:((s.log.length:Int) != (t.log.length:Int)) = true:=by rw [bne_iff_ne];omega
     have hN:(s.log.length != t.log.length) = true:=by rw [bne_iff_ne];exact hlen
     have hF:Hid (same tRows s.log t.log = false):=same_not (fun e=>hlen (by rw [e]))
     go_enter Tryz.func23,Tryz.ntmps23
     go_wp2_with (first
      | ((with_reducible refine at_g5 ?_);refine xae (by rfl) 37 _ rfl w.heap.size 1 rfl (baseL s.base) _ ?hg Tryz.underlying37 rfl (xcl _) ?_;(case hg=>exact xb))
      | ((with_reducible refine at_g5 ?_);refine xae (by rfl) 37 _ rfl (w.heap.size + 1) 1 rfl (baseL t.base) _ ?hg Tryz.underlying37 rfl (xcl _) ?_;(case hg=>exact yb))
      | ((with_reducible refine at_g12 ?_);refine xae (by rfl) 41 _ rfl w.heap.size 40 rfl (entL s.tail) _ ?hg Tryz.underlying41 rfl (xax _) ?_;(case hg=>exact xt))
      | ((with_reducible refine at_g12 ?_);refine xae (by rfl) 41 _ rfl (w.heap.size + 1) 40 rfl (entL t.tail) _ ?hg Tryz.underlying41 rfl (xax _) ?_;(case hg=>exact yt))
      | ((with_reducible refine at_g5 ?_);refine xbc (by rfl) .neq 37 _ _ _ rfl (baseC s.base) (baseC t.base) rfl rfl (.bool false) xfj ?hg ?_;(case hg=>exact e1 _))
      | ((with_reducible refine at_g12 ?_);refine xbc (by rfl) .neq 41 _ _ _ rfl (entC s.tail) (entC t.tail) rfl rfl (.bool false) xdv ?hg ?_;(case hg=>exact e2 _))
      | fail)
     go_ret
     exact ⟨by rw [hM.out,hF.out];rfl,hb⟩
 ·have i1:((s.started:Int) != (t.started:Int)) = true:=by rw [bne_iff_ne];omega
  have n1:(s.started != t.started) = true:=by rw [bne_iff_ne];exact h1
  rw [decide_eq_false h1] at hM
  go_enter Tryz.func23,Tryz.ntmps23
  go_wp2
  go_ret
  exact ⟨by rw [hM.out];rfl,hb⟩
end Go.Proofs.YtecilienolabfaaGreatDoor
