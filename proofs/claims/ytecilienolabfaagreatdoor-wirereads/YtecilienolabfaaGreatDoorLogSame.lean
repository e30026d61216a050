/- The contracts of pglog's Same and of slices.Equal. -/
import Derived.Test.YtecilienolabfaaGreatDoorPackLog
namespace Go.Proofs.YtecilienolabfaaGreatDoor
set_option linter.unusedSimpArgs false
set_option linter.unusedVariables false
set_option maxRecDepth 100000
open Go.RowKit
theorem same_take (l m:List EntV) (n:Nat) (h:n < l.length) (h':n < m.length):l.take (n + 1) = m.take (n + 1) ↔ l.take n = m.take n ∧ l[n] = m[n]:=by
 rw [List.take_succ_eq_append_getElem h,List.take_succ_eq_append_getElem h']
 constructor
 ·intro e
  have hl:(l.take n).length = (m.take n).length:=by rw [List.length_take,List.length_take];omega
  obtain ⟨e1,e2⟩:=List.append_inj e hl
  exact ⟨e1,by simpa using e2⟩
 ·rintro ⟨e1,e2⟩
  rw [e1,e2]
set_option maxHeartbeats 4000000 in
theorem equal_any7 (ao bo:Option Addr) (c d:Nat) (l m:List EntV) (w:World) (h:Sl w ao c 8 (entR l)) (h':Sl w bo d 8 (entR m)) (hl:∀ e ∈ l,EntOk e) (hm:∀ e ∈ m,EntOk e) :
  Calls Tryz.prog 87 #[.slice ao l.length c,.slice bo m.length d] w fun en w'=>en = .returned (.bool (same tRows l m)) ∧ Below w.heap.size w w':=by
 have hle:=h.ent_le
 have hcap:=h.cap
 have hle':=h'.ent_le
 have hcap':=h'.cap
 by_cases hlen:l.length = m.length
 ·have hI:((l.length:Int) != (m.length:Int)) = false:=by simp [hlen]
  have hN:(l.length != m.length) = false:=by simp [hlen]
  replace hlen:Hid _:=hlen
  go_enter Tryz.func87,Tryz.ntmps87
  go_wp2
  go_loopw [13] (fun i wr=>∃ n:Nat,n ≤ l.length ∧ i = .int .i64 n ∧ Below w.heap.size w wr ∧ l.take n = m.take n) (fun i _=>l.length - (intOf i).toNat)
  case atStart=>exact ⟨0,Nat.zero_le _,rfl,Below.refl _ _,rfl⟩
  case round =>
   obtain ⟨n,hn,rfl,hb,hc⟩:=hrel
   by_cases hlt:n < l.length
   ·have hlt':n < m.length:=by have:=hlen.out;omega
    cases ao with
    | none=>have:=h.nil rfl;omega
    | some ad =>
    cases bo with
    | none=>have:=h'.nil rfl;omega
    | some bd =>
     have hx:=fun W (hW:Below wr.heap.size wr W)=>ent_at (h.later (hb.trans (hW.mono hb.size))) n hlt
     have hy:=fun W (hW:Below wr.heap.size wr W)=>ent_at (h'.later (hb.trans (hW.mono hb.size))) n hlt'
     have hxo:=hl l[n] (List.getElem_mem hlt)
     have hyo:=hm m[n] (List.getElem_mem hlt')
     have hnext:Hid _:=same_take l m n hlt hlt'
     have hno:Hid (l[n] ≠ m[n] → same tRows l m = false):=fun hne=>same_not (fun e=>hne (by subst e;rfl))
     have hltI:(n:Int) < (l.length:Int):=by omega
     have hltJ:(n:Int) < (m.length:Int):=by omega
     replace hc:Hid _:=hc
     generalize l[n] = x at *
     generalize m[n] = y at *
     have heq:=fun W=>neqv_ent x y hxo hyo W
     have hbA:Below wr.heap.size wr wr.drew:=(Below.refl _ _).drew
     go_wp2
     refine xas (fun W=>Below wr.heap.size wr W) (Plan.of [(0,true),(1,true),(2,true),(3,true),(4,true),(5,true),(6,true),(7,true),(8,true)] .done) (by kernel_rfl) (by kernel_rfl) (by kernel_rfl) (by kernel_rfl) hbA ?_
     iterate 3
      first
       | (refine xad _ rfl (by rfl) ?_)
       | (refine xaa _ _ rfl (.inl ⟨by rfl,fun W hS=>by clear hS;go_simp;try with_reducible rfl⟩) ?_)
      try simp only [qp,qa,qb,qc]
     refine xaa _ _ rfl (.inl ⟨by rfl,fun W hW=>xdy 41 _ rfl _ rfl (entL x) _ (hx W hW) Tryz.underlying41 rfl (xax x)⟩) ?_
     try simp only [qp,qa,qb,qc]
     iterate 3
      first
       | (refine xad _ rfl (by rfl) ?_)
       | (refine xaa _ _ rfl (.inl ⟨by rfl,fun W hS=>by clear hS;go_simp;try with_reducible rfl⟩) ?_)
      try simp only [qp,qa,qb,qc]
     refine xaa _ _ rfl (.inl ⟨by rfl,fun W hW=>xdy 41 _ rfl _ rfl (entL y) _ (hy W hW) Tryz.underlying41 rfl (xax y)⟩) ?_
     try simp only [qp,qa,qb,qc]
     refine xaa _ _ rfl (xbh (by rfl) .neq 41 _ _ _ rfl (entC x) (entC y) rfl rfl (.bool (!same tEnt x y)) xdv heq) ?_
     try simp only [qp,qa,qb,qc]
     refine xbf ?_
     have hb2:=hb.trans (hbA.mono hb.size)
     clear hx hy heq hbA
     cases hs:same tEnt x y with
     | false =>
      have hF:Hid _:=hno.out (fun e=>by rw [(xcn x y).2 e] at hs;cases hs)
      go_wp2
      go_ret
      exact ⟨by rw [hF.out];rfl,hb2⟩
     | true =>
      have hF:Hid _:=hnext.out.2 ⟨hc.out,(xcn x y).1 hs⟩
      go_wp2
      go_roundw
      case rel=>exact ⟨n + 1,by omega,by go_num,hb2,hF.out⟩
      case measure=>simp [intOf];omega
   ·have e5:n = l.length:=by omega
    subst e5
    have hF:Hid (same tRows l m = true):=(xcn l m).2 (by
     have h2:=hlen.out
     rw [List.take_length,h2,List.take_length] at hc
     exact hc)
    clear hc
    go_wp2
    go_ret
    exact ⟨by rw [hF.out];rfl,hb⟩
 ·have hI:((l.length:Int) != (m.length:Int)) = true:=by rw [bne_iff_ne];omega
  have hN:(l.length != m.length) = true:=by rw [bne_iff_ne];exact hlen
  have hF:Hid (same tRows l m = false):=same_not (fun e=>hlen (by rw [e]))
  go_enter Tryz.func87,Tryz.ntmps87
  go_wp2
  go_ret
  exact ⟨by rw [hF.out];rfl,Below.refl _ _⟩
theorem same_parts (a b:StV):same tSt a b = (decide (a.started = b.started) && (same tBase a.base b.base && (same tEnt a.tail b.tail && same tRows a.log b.log))):=by
 rw [Bool.eq_iff_iff,xcn]
 simp only [Bool.and_eq_true,xcn,decide_eq_true_iff]
 obtain ⟨a1,a2,a3,a4⟩:=a
 obtain ⟨b1,b2,b3,b4⟩:=b
 simp
set_option maxHeartbeats 4000000 in
theorem same_any (s t:StV) (ao bo:Option Addr) (c d:Nat) (w:World) (hs:StOk s) (ht:StOk t) (h:Sl w ao c 8 (entR s.log)) (h':Sl w bo d 8 (entR t.log)) :
  Calls Tryz.prog 51 #[.agg (stC s ao c),.agg (stC t bo d)] w fun en w'=>en = .returned (.bool (same tSt s t)) ∧ Below w.heap.size w w':=by
 obtain ⟨w1,hw1,hX,hY,hb⟩:=xbl w 44 44 (stC s ao c) (stC t bo d)
 have hM:Hid _:=same_parts s t
 have x0:=hX.st_started
 have y0:=hY.st_started
 have xb:=hX.st_base
 have yb:=hY.st_base
 have xt:=hX.st_tail
 have yt:=hY.st_tail
 have xl:=hX.st_log
 have yl:=hY.st_log
 have e1:=fun W=>eqv_base s.base t.base hs.base ht.base W
 have e2:=fun W=>eqv_ent s.tail t.tail hs.tail ht.tail W
 have d1:=hs.started
 have d2:=ht.started
 by_cases h1:s.started = t.started
 ·have i1:((s.started:Int) == (t.started:Int)) = true:=by rw [beq_iff_eq];omega
  have n1:(s.started == t.started) = true:=by rw [beq_iff_eq];omega
  rw [decide_eq_true h1] at hM
  replace h1:Hid _:=h1
  cases h2:same tBase s.base t.base with
  | false =>
   rw [h2] at hM e1
   go_enter Tryz.func51,Tryz.ntmps51
   go_wp2_with (first
    | (refine xae (by rfl) 37 _ rfl w.heap.size 1 rfl (baseL s.base) _ ?hg Tryz.underlying37 rfl (xcl _) ?_;(case hg=>exact xb))
    | (refine xae (by rfl) 37 _ rfl (w.heap.size + 1) 1 rfl (baseL t.base) _ ?hg Tryz.underlying37 rfl (xcl _) ?_;(case hg=>exact yb))
    | (refine xbc (by rfl) .eql 37 _ _ _ rfl (baseC s.base) (baseC t.base) rfl rfl (.bool false) xfj ?hg ?_;(case hg=>exact e1 _)))
   go_ret
   exact ⟨by rw [hM.out];rfl,hb⟩
  | true =>
   rw [h2] at hM e1
   cases h3:same tEnt s.tail t.tail with
   | false =>
    rw [h3] at hM e2
    go_enter Tryz.func51,Tryz.ntmps51
    go_wp2_with (first
     | (refine xae (by rfl) 37 _ rfl w.heap.size 1 rfl (baseL s.base) _ ?hg Tryz.underlying37 rfl (xcl _) ?_;(case hg=>exact xb))
     | (refine xae (by rfl) 37 _ rfl (w.heap.size + 1) 1 rfl (baseL t.base) _ ?hg Tryz.underlying37 rfl (xcl _) ?_;(case hg=>exact yb))
     | (refine xae (by rfl) 41 _ rfl w.heap.size 40 rfl (entL s.tail) _ ?hg Tryz.underlying41 rfl (xax _) ?_;(case hg=>exact xt))
     | (refine xae (by rfl) 41 _ rfl (w.heap.size + 1) 40 rfl (entL t.tail) _ ?hg Tryz.underlying41 rfl (xax _) ?_;(case hg=>exact yt))
     | (refine xbc (by rfl) .eql 37 _ _ _ rfl (baseC s.base) (baseC t.base) rfl rfl (.bool true) xfj ?hg ?_;(case hg=>exact e1 _))
     | (refine xbc (by rfl) .eql 41 _ _ _ rfl (entC s.tail) (entC t.tail) rfl rfl (.bool false) xdv ?hg ?_;(case hg=>exact e2 _)))
    go_ret
    exact ⟨by rw [hM.out];rfl,hb⟩
   | true =>
    rw [h3] at hM e2
    go_enter Tryz.func51,Tryz.ntmps51
    go_wp2_with (first
     | (refine xae (by rfl) 37 _ rfl w.heap.size 1 rfl (baseL s.base) _ ?hg Tryz.underlying37 rfl (xcl _) ?_;(case hg=>exact xb))
     | (refine xae (by rfl) 37 _ rfl (w.heap.size + 1) 1 rfl (baseL t.base) _ ?hg Tryz.underlying37 rfl (xcl _) ?_;(case hg=>exact yb))
     | (refine xae (by rfl) 41 _ rfl w.heap.size 40 rfl (entL s.tail) _ ?hg Tryz.underlying41 rfl (xax _) ?_;(case hg=>exact xt))
     | (refine xae (by rfl) 41 _ rfl (w.heap.size + 1) 40 rfl (entL t.tail) _ ?hg Tryz.underlying41 rfl (xax _) ?_;(case hg=>exact yt))
     | (refine xbc (by rfl) .eql 37 _ _ _ rfl (baseC s.base) (baseC t.base) rfl rfl (.bool true) xfj ?hg ?_;(case hg=>exact e1 _))
     | (refine xbc (by rfl) .eql 41 _ _ _ rfl (entC s.tail) (entC t.tail) rfl rfl (.bool true) xdv ?hg ?_;(case hg=>exact e2 _)))
    refine (equal_any7 ao bo c d s.log t.log _ (h.later hb) (h'.later hb) hs.log ht.log).mono ?_
    rintro en w2 ⟨rfl,hq⟩
    replace hb:=hb.trans (hq.mono hb.size)
    go_wp2
    go_ret
    exact ⟨by rw [hM.out];rfl,hb⟩
 ·have i1:((s.started:Int) == (t.started:Int)) = false:=by rw [beq_eq_false_iff_ne];omega
  have n1:(s.started == t.started) = false:=by rw [beq_eq_false_iff_ne];omega
  rw [decide_eq_false h1] at hM
  go_enter Tryz.func51,Tryz.ntmps51
  go_wp2
  go_ret
  exact ⟨by rw [hM.out];rfl,hb⟩
end Go.Proofs.YtecilienolabfaaGreatDoor
