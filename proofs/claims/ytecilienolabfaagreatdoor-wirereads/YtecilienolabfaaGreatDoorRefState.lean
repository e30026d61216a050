/- The contracts of the document's Is and Head. -/
import Derived.Test.YtecilienolabfaaGreatDoorRefBase
namespace Go.Proofs.YtecilienolabfaaGreatDoor
set_option linter.unusedSimpArgs false
set_option linter.unusedVariables false
set_option maxRecDepth 100000
open Go.RowKit
theorem op_built0:Tryz.prog.built 39 [] = some (opC op0):=by kernel_rfl
theorem same_op0 (o:OpV):same tOp o op0 = xfl o:=by rw [Bool.eq_iff_iff,xcn,isZero_is]
theorem Has.st_tail_op {w:World} {g:Nat} {s:StV} {ao:Option Addr} {c:Nat} (h:Has w g 44 (stC s ao c)):w.rangeAt g 42 (opL s.tail.op):=h.range _ _ fun j v hj=>by
 have hl:j < 6:=(List.getElem?_eq_some_iff.1 hj).1
 rw [show 42 + j = 40 + (j + 2) by omega,stC_tail (s:=s) (ao:=ao) (c:=c) (j + 2) (by omega)]
 exact hj
set_option maxHeartbeats 4000000 in
theorem xgw (s:StV) (ao:Option Addr) (c:Nat) (w:World) (hs:StOk s) (h:Sl w ao c 8 (entR s.log)):Calls Tryz.prog 24 #[.agg (stC s ao c)] w fun en w'=>en = .returned (.bool (isSt s)) ∧ Below w.heap.size w w':=by
 obtain ⟨w1,hw1,hX,hb⟩:=xbr w 44 (stC s ao c)
 have hM:Hid _:=is_is s
 have hno:Hid (¬ (s.started ≤ 60 ∧ xgi s.tail = true ∧ xdu s.base = true ∧ s.log.length ≤ 6 ∧ chainM s.tail s.log = true) → isSt s = false):=fun hh=>by
  cases hi:isSt s with
  | false=>rfl
  | true=>exact absurd (hM.out.1 hi) hh
 have c0:=hX.st_started
 have c40:=hX.st_tail_since
 have c41:=hX.st_tail_n
 have c48:=hX.st_log
 have hto:=hX.st_tail_op
 have hbs:=hX.st_base
 have d0:=hs.started
 have d1:=hs.tail.since
 have d2:=hs.tail.n
 have hlen:=hs.len
 have hle:=h.ent_le
 have hcap:=h.cap
 have heq:=fun W=>neqv_op s.tail.op op0 hs.tail.op op0_ok W
 rw [same_op0] at heq
 have htl:Hid _:=isTail_is s.tail
 have hzo:Hid _:=isZero_is s.tail.op
 by_cases h1:s.started ≤ 60
 ·have h1I:¬ (60:Int) < (s.started:Int):=by omega
  by_cases h2:s.tail.since ≤ 60
  ·have h2I:¬ (60:Int) < (s.tail.since:Int):=by omega
   cases h3:xfl s.tail.op with
   | true =>
    have hT:Hid (xgi s.tail = true):=htl.out.2 ⟨h2,hzo.out.1 h3⟩
    rw [h3] at heq
    by_cases h4:s.log.length ≤ 6
    ·have h4I:¬ (6:Int) < (s.log.length:Int):=by omega
     go_enter Tryz.func24,Tryz.ntmps24
     go_wp2_with (first
      | (refine xae (by rfl) 39 _ rfl w.heap.size 42 rfl (opL s.tail.op) _ ?hg Tryz.underlying39 rfl (xca _) ?_;(case hg=>exact hto))
      | (refine xar (by rfl) 39 #[] rfl (opC op0) (by simpa using op_built0) ?_)
      | (refine xbc (by rfl) .neq 39 _ _ _ rfl (opC s.tail.op) (opC op0) rfl rfl (.bool (!true)) xgq ?hg ?_;(case hg=>exact heq _))
      | (refine xae (by rfl) 37 _ rfl w.heap.size 1 rfl (baseL s.base) _ ?hg Tryz.underlying37 rfl (xcl _) ?_;(case hg=>exact hbs))
      | fail)
     refine (refbase_any s.base _ hs.base).mono ?_
     rintro en w2 ⟨rfl,hq⟩
     replace hX:=hX.later hq
     replace hb:=hb.trans (hq.mono hb.size)
     clear hq c0 c40 c41 c48 hto hbs heq
     cases h5:xdu s.base with
     | false =>
      have hF:Hid _:=hno.out (fun hh=>by rw [h5] at hh;cases hh.2.2.1)
      go_wp2
      go_ret
      exact ⟨by rw [hF.out];rfl,hb⟩
     | true =>
      have hBH:Hid _:=h5
      have h1H:Hid _:=h1
      have h4H:Hid _:=h4
      have hbA:Below w2.heap.size w2 w2.drew:=(Below.refl _ _).drew
      go_wp2
      refine xas (fun W=>Below w2.heap.size w2 W) (Plan.of [(0,true),(1,true),(2,true),(3,true),(4,true),(5,true),(6,true),(7,true)] .done) (by kernel_rfl) (by kernel_rfl) (by kernel_rfl) (by kernel_rfl) hbA ?_
      iterate 2
       first
        | (refine xad _ rfl (by rfl) ?_)
        | (refine xaa _ _ rfl (.inl ⟨by rfl,fun W hS=>by clear hS;go_simp;try with_reducible rfl⟩) ?_)
       try simp only [qp,qa,qb,qc]
      iterate 1
       first
        | (refine xad _ rfl (by rfl) ?_)
        | (refine xaa _ _ rfl (.inl ⟨by rfl,fun W hS=>by have z0:=(hX.later hS).st_tail_since;go_simp;try with_reducible rfl⟩) ?_)
       try simp only [qp,qa,qb,qc]
      iterate 2
       first
        | (refine xad _ rfl (by rfl) ?_)
        | (refine xaa _ _ rfl (.inl ⟨by rfl,fun W hS=>by clear hS;go_simp;try with_reducible rfl⟩) ?_)
       try simp only [qp,qa,qb,qc]
      iterate 1
       first
        | (refine xad _ rfl (by rfl) ?_)
        | (refine xaa _ _ rfl (.inl ⟨by rfl,fun W hS=>by have z0:=(hX.later hS).st_tail_n;go_simp;try with_reducible rfl⟩) ?_)
       try simp only [qp,qa,qb,qc]
      iterate 2
       first
        | (refine xad _ rfl (by rfl) ?_)
        | (refine xaa _ _ rfl (.inl ⟨by rfl,fun W hS=>by clear hS;go_simp;try with_reducible rfl⟩) ?_)
       try simp only [qp,qa,qb,qc]
      refine xbf ?_
      replace hX:=hX.later hbA
      replace hb:=hb.trans (hbA.mono hb.size)
      clear hbA h1 h4
      generalize w2.drew = w3 at *
      go_wp2
      go_loopw [3,4,5] (fun a b i wr=>∃ n:Nat,n ≤ s.log.length ∧ a = .int .u32 ((lastE s.tail (s.log.take n)).since:Int) ∧ b = .int .u32 ((lastE s.tail (s.log.take n)).n:Int) ∧ i = .int .i64 n ∧ Has wr w.heap.size 44 (stC s ao c) ∧ Below w.heap.size w wr ∧ chainM s.tail (s.log.take n) = true) (fun _ _ i _=>s.log.length - (intOf i).toNat)
      case atStart=>exact ⟨0,Nat.zero_le _,rfl,rfl,rfl,hX,hb,rfl⟩
      case round =>
       clear hX hb
       obtain ⟨n,hn,rfl,rfl,rfl,hX,hb,hc⟩:=hrel
       have c48:=hX.st_log
       by_cases hlt:n < s.log.length
       ·cases ao with
        | none=>have:=h.nil rfl;omega
        | some ad =>
         have hx:=ent_at (h.later hb) n hlt
         have hxo:=hs.log s.log[n] (List.getElem_mem hlt)
         have hlo:=lastE_ok hs.tail (l:=s.log.take n) (fun e he=>hs.log e (List.mem_of_mem_take he))
         have hnext:Hid _:=chain_take s.tail s.log n hlt
         have hnl:Hid (lastE s.tail (s.log.take (n + 1)) = posE s.log[n]):=by
          show _ = _
          rw [List.take_succ_eq_append_getElem hlt,xgy]
         have hnc:Hid _:=chain_no s.tail s.log (n + 1)
         rw [hc] at hnext
         have hltI:(n:Int) < (s.log.length:Int):=by omega
         clear hc
         generalize s.log[n] = x at *
         generalize lastE s.tail (s.log.take n) = p at *
         have hfn:=fun h=>follows_no (p:=p) (e:=x) h
         have hfy:=fun h=>(xhb (p:=p) (e:=x)).2 h
         obtain ⟨w4,hw4,hE,hq⟩:=xcm wr 41 (entC ent0) (entC x)
         replace hX:=hX.later hq
         replace hb:=hb.trans (hq.mono hb.size)
         clear hq
         have hop:=hE.ent_op
         go_wp2_with (first
          | (refine xei (by rfl) 41 _ rfl _ rfl (entL x) _ ?hg Tryz.underlying41 rfl (xax x) ?_;(case hg=>exact hx))
          | (refine xac (by rfl) 41 rfl (entC ent0) xff ?_)
          | (refine xai (by rfl) 41 _ _ rfl wr.heap.size rfl (entC x) rfl 41 (entC ent0) (xax _) rfl (xet _) ?hg w4 ?hW ?_;(case hg=>exact Has.new _ _ _);(case hW=>exact hw4);clear hw4;generalize wr.heap.size = ge at *)
          | (refine xae (by rfl) 39 _ rfl ge 2 rfl (opL x.op) _ ?hg Tryz.underlying39 rfl (xca _) ?_;(case hg=>exact hop)))
         refine (refwrites_any x.op _ hxo.op).mono ?_
         rintro en w5 ⟨rfl,hq⟩
         replace hX:=hX.later hq
         replace hE:=hE.later hq
         replace hb:=hb.trans (hq.mono hb.size)
         clear hq hop hx c48
         have e0:=hE.ent_since
         have e1:=hE.ent_n
         have b1:=hxo.since
         have b2:=hxo.n
         have b3:=hlo.since
         have b4:=hlo.n
         have hF:xdf p x = false → isSt s = false:=fun hf=>hno.out (fun hh=>by
          have:=hnc.out (by rw [hnext.out,hf];rfl)
          rw [this] at hh
          cases hh.2.2.2.2)
         cases hwr:xdz x.op with
         | false =>
          have hFF:Hid _:=hF (hfn (.inl hwr))
          clear hfn hfy hF
          go_wp2
          go_ret
          exact ⟨by rw [hFF.out];rfl,hb⟩
         | true =>
          by_cases g1:x.n = 0
          ·have hFF:Hid _:=hF (hfn (.inr (.inl (by omega))))
           have g1I:(x.n:Int) = 0:=by omega
           clear hfn hfy hF
           go_wp2
           go_ret
           exact ⟨by rw [hFF.out];rfl,hb⟩
          ·have g1I:¬ (x.n:Int) = 0:=by omega
           by_cases g2:x.n = p.n + 1
           ·have g2I:(x.n:Int) - 1 = (p.n:Int):=by omega
            by_cases g3:p.since ≤ x.since
            ·have g3I:¬ (x.since:Int) < (p.since:Int):=by omega
             by_cases g4:x.since ≤ 60
             ·have g4I:¬ (60:Int) < (x.since:Int):=by omega
              have hy:Hid _:=hfy ⟨hwr,g2,g3,g4⟩
              clear hfn hfy hF g1 g2 g3 g4
              have hbA:Below w5.heap.size w5 w5.drew:=(Below.refl _ _).drew
              go_wp2
              ·rename_i z
               exfalso
               simp only [beq_iff_eq] at z
               omega
              refine xas (fun W=>Below w5.heap.size w5 W) (Plan.of [(0,true),(1,true),(2,true),(3,true),(4,true),(5,true)] .done) (by kernel_rfl) (by kernel_rfl) (by kernel_rfl) (by kernel_rfl) hbA ?_
              iterate 1
               first
                | (refine xad _ rfl (by rfl) ?_)
                | (refine xaa _ _ rfl (.inl ⟨by rfl,fun W hS=>by clear hS;go_simp;try with_reducible rfl⟩) ?_)
               try simp only [qp,qa,qb,qc]
              iterate 1
               first
                | (refine xad _ rfl (by rfl) ?_)
                | (refine xaa _ _ rfl (.inl ⟨by rfl,fun W hS=>by have z0:=(hE.later hS).ent_since;go_simp;try with_reducible rfl⟩) ?_)
               try simp only [qp,qa,qb,qc]
              iterate 1
               first
                | (refine xad _ rfl (by rfl) ?_)
                | (refine xaa _ _ rfl (.inl ⟨by rfl,fun W hS=>by clear hS;go_simp;try with_reducible rfl⟩) ?_)
               try simp only [qp,qa,qb,qc]
              iterate 1
               first
                | (refine xad _ rfl (by rfl) ?_)
                | (refine xaa _ _ rfl (.inl ⟨by rfl,fun W hS=>by have z0:=(hE.later hS).ent_n;go_simp;try with_reducible rfl⟩) ?_)
               try simp only [qp,qa,qb,qc]
              iterate 2
               first
                | (refine xad _ rfl (by rfl) ?_)
                | (refine xaa _ _ rfl (.inl ⟨by rfl,fun W hS=>by clear hS;go_simp;try with_reducible rfl⟩) ?_)
               try simp only [qp,qa,qb,qc]
              refine xbf ?_
              replace hX:=hX.later hbA
              replace hb:=hb.trans (hbA.mono hb.size)
              clear hbA hE e0 e1
              generalize w5.drew = w6 at *
              go_wp2
              go_roundw
              case rel=>exact ⟨n + 1,by omega,by rw [hnl.out];rfl,by rw [hnl.out];rfl,by go_num,hX,hb,by rw [hnext.out,hy.out];rfl⟩
              case measure=>simp [intOf];omega
             ·have hFF:Hid _:=hF (hfn (.inr (.inr (.inr g4))))
              have g4I:(60:Int) < (x.since:Int):=by omega
              clear hfn hfy hF g1 g2 g3 g4
              go_wp2
              go_ret
              exact ⟨by rw [hFF.out];rfl,hb⟩
            ·have hFF:Hid _:=hF (hfn (.inr (.inr (.inl g3))))
             have g3I:(x.since:Int) < (p.since:Int):=by omega
             clear hfn hfy hF g1 g2 g3
             go_wp2
             go_ret
             exact ⟨by rw [hFF.out];rfl,hb⟩
           ·have hFF:Hid _:=hF (hfn (.inr (.inl g2)))
            have g2I:¬ (x.n:Int) - 1 = (p.n:Int):=by omega
            clear hfn hfy hF g1 g2
            go_wp2
            go_ret
            exact ⟨by rw [hFF.out];rfl,hb⟩
       ·have e5:n = s.log.length:=by omega
        subst e5
        rw [List.take_length] at hc
        have hY:Hid _:=hM.out.2 ⟨h1H.out,hT.out,hBH.out,h4H.out,hc⟩
        clear hc
        go_wp2
        go_ret
        exact ⟨by rw [hY.out];rfl,hb⟩
    ·have h4I:(6:Int) < (s.log.length:Int):=by omega
     have hF:Hid _:=hno.out (fun hh=>h4 hh.2.2.2.1)
     go_enter Tryz.func24,Tryz.ntmps24
     go_wp2_with (first
      | (refine xae (by rfl) 39 _ rfl w.heap.size 42 rfl (opL s.tail.op) _ ?hg Tryz.underlying39 rfl (xca _) ?_;(case hg=>exact hto))
      | (refine xar (by rfl) 39 #[] rfl (opC op0) (by simpa using op_built0) ?_)
      | (refine xbc (by rfl) .neq 39 _ _ _ rfl (opC s.tail.op) (opC op0) rfl rfl (.bool (!true)) xgq ?hg ?_;(case hg=>exact heq _))
      | (refine xae (by rfl) 37 _ rfl w.heap.size 1 rfl (baseL s.base) _ ?hg Tryz.underlying37 rfl (xcl _) ?_;(case hg=>exact hbs))
      | fail)
     go_ret
     exact ⟨by rw [hF.out];rfl,hb⟩
   | false =>
    have hF:Hid _:=hno.out (fun hh=>by have:=hzo.out.2 (htl.out.1 hh.2.1).2;rw [h3] at this;cases this)
    rw [h3] at heq
    go_enter Tryz.func24,Tryz.ntmps24
    go_wp2_with (first
     | (refine xae (by rfl) 39 _ rfl w.heap.size 42 rfl (opL s.tail.op) _ ?hg Tryz.underlying39 rfl (xca _) ?_;(case hg=>exact hto))
     | (refine xar (by rfl) 39 #[] rfl (opC op0) (by simpa using op_built0) ?_)
     | (refine xbc (by rfl) .neq 39 _ _ _ rfl (opC s.tail.op) (opC op0) rfl rfl (.bool (!false)) xgq ?hg ?_;(case hg=>exact heq _))
     | (refine xae (by rfl) 37 _ rfl w.heap.size 1 rfl (baseL s.base) _ ?hg Tryz.underlying37 rfl (xcl _) ?_;(case hg=>exact hbs))
     | fail)
    go_ret
    exact ⟨by rw [hF.out];rfl,hb⟩
  ·have h2I:(60:Int) < (s.tail.since:Int):=by omega
   have hF:Hid _:=hno.out (fun hh=>h2 (htl.out.1 hh.2.1).1)
   go_enter Tryz.func24,Tryz.ntmps24
   go_wp2
   go_ret
   exact ⟨by rw [hF.out];rfl,hb⟩
 ·have h1I:(60:Int) < (s.started:Int):=by omega
  have hF:Hid _:=hno.out (fun hh=>h1 hh.1)
  go_enter Tryz.func24,Tryz.ntmps24
  go_wp2
  go_ret
  exact ⟨by rw [hF.out];rfl,hb⟩
end Go.Proofs.YtecilienolabfaaGreatDoor
