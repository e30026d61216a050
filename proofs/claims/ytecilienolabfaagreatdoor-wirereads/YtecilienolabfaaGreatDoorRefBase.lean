/- The contract of the document's isBase. -/
import Derived.Test.YtecilienolabfaaGreatDoorPackLog
import Derived.Test.YtecilienolabfaaGreatDoorPackTools
namespace Go.Proofs.YtecilienolabfaaGreatDoor
set_option linter.unusedSimpArgs false
set_option linter.unusedVariables false
set_option maxRecDepth 100000
open Go.RowKit
theorem obj_bad (x:ObjV):isObjM x = false ↔ (x.there = false ∧ same tObj x obj0 = false) ∨ 16 < x.data.length ∨ 16 < x.a0.length ∨ 16 < x.a1.length ∨ 16 < x.a2.length:=by
 rw [← Bool.not_eq_true,isObj_is]
 cases ht:x.there with
 | false =>
  have hs:=same_obj0 ht
  constructor
  ·intro h
   by_cases h1:16 < x.data.length ∨ 16 < x.a0.length ∨ 16 < x.a1.length ∨ 16 < x.a2.length
   ·exact .inr h1
   ·refine .inl ⟨rfl,?_⟩
    rw [hs,← Bool.not_eq_true,isObj_is,ht]
    exact h
  ·rintro (⟨_,h⟩ | h)
   ·rw [hs,← Bool.not_eq_true,isObj_is,ht] at h
    exact h
   ·rintro ⟨_,h2⟩
    omega
 | true =>
  constructor
  ·intro h
   refine .inr ?_
   by_cases h1:16 < x.data.length ∨ 16 < x.a0.length ∨ 16 < x.a1.length ∨ 16 < x.a2.length
   ·exact h1
   ·exact absurd ⟨fun e=>(by cases e),by omega,by omega,by omega,by omega⟩ h
  ·rintro (⟨h,_⟩ | h)
   ·cases h
   ·rintro ⟨_,h2⟩
    omega
theorem attr_len (x:ObjV) (k:Nat) (hk:k < 3):(16 < x.a0.length ∨ 16 < x.a1.length ∨ 16 < x.a2.length) ↔ ∃ k,k < 3 ∧ 16 < (x.attr k).length:=by
 constructor
 ·rintro (h | h | h)
  ·exact ⟨0,by decide,h⟩
  ·exact ⟨1,by decide,h⟩
  ·exact ⟨2,by decide,h⟩
 ·rintro ⟨k,hk,h⟩
  match k,hk with
  | 0,_=>exact .inl h
  | 1,_=>exact .inr (.inl h)
  | 2,_=>exact .inr (.inr h)
theorem ObjIn.attr {x:ObjV} (h:ObjIn x) (k:Nat) (hk:k < 3):(x.attr k).length ≤ 9223372036854775807:=by
 match k,hk with
 | 0,_=>exact h.a0
 | 1,_=>exact h.a1
 | 2,_=>exact h.a2
theorem Has.attr_at {w:World} {g:Nat} {x:ObjV} (h:Has w g 29 (objC x)) (k:Nat) (hk:k < 3):w.cell? ⟨g,2 + k,none⟩ = some (.string (mkS (x.attr k))):=by
 rw [h.cell]
 match k,hk with
 | 0,_=>rfl
 | 1,_=>rfl
 | 2,_=>rfl
theorem mkS_eq_nil (l:List UInt8):((mkS l).toList == (ByteArray.mk #[]).toList) = decide (l.length = 0):=by
 rw [ByteArray.toList_eq,ByteArray.toList_eq]
 cases l with
 | nil=>rfl
 | cons x xs=>rfl
theorem xfx {P:Program} {o:Oper} {ev:Operand → Value} (ty ty':TypeId) (x y:Operand) (ho:o.op = .binOp .neq ty x y ty') (l:List UInt8) (hx:ev x = .string (mkS l)) (hy:ev y = .string (ByteArray.mk #[])) (b:Bool) (hb:decide (l.length = 0) = b) (w:World) :
  (execOp ev o).run P w = .ok (.value (.bool (!b))) w:=by
 subst hb
 unfold execOp
 simp only [ho,hx,hy]
 simp [Sem.run_bind,go_sem,mkS_eq_nil]
 rw [mkS_isEmpty]
 simp [List.length_eq_zero_iff]
set_option maxHeartbeats 4000000 in
theorem refbase_any (b:BaseV) (w:World) (hB0:BaseIn b):Calls Tryz.prog 65 #[.agg (baseC b)] w fun en w'=>en = .returned (.bool (xdu b)) ∧ Below w.heap.size w w':=by
 obtain ⟨w1,hw1,hX,hb⟩:=xbr w 37 (baseC b)
 have hM:Hid _:=isBase_is b
 go_enter Tryz.func65,Tryz.ntmps65
 go_wp2
 go_loopw [3] (fun i wr=>∃ n:Nat,n ≤ 6 ∧ i = .int .i64 n ∧ Has wr w.heap.size 37 (baseC b) ∧ Below w.heap.size w wr ∧ ∀ k:Fin 6,k.val < n → isObjM (b.obj k) = true) (fun i _=>6 - (intOf i).toNat)
 case atStart=>exact ⟨0,by decide,rfl,hX,hb,fun k hk=>by omega⟩
 case round =>
  clear hX hb
  obtain ⟨n,hn,rfl,hX,hb,hk⟩:=hrel
  by_cases hlt:n < 6
  ·have hltI:(n:Int) < 6:=by omega
   have hin:=hB0.obj ⟨n,hlt⟩
   have hrow:=hX.obj_at ⟨n,hlt⟩
   have hkk:Hid (∀ k:Fin 6,k.val < n → isObjM (b.obj k) = true):=hk
   have hno:Hid (isObjM (b.obj ⟨n,hlt⟩) = false → xdu b = false):=fun h=>by
    cases hq:xdu b with
    | false=>rfl
    | true=>have:=(hM.out.1 hq).1 ⟨n,hlt⟩;rw [h] at this;cases this
   have hyes:Hid (isObjM (b.obj ⟨n,hlt⟩) = true → ∀ k:Fin 6,k.val < n + 1 → isObjM (b.obj k) = true):=fun h k hk=>by
    by_cases h1:k.val < n
    ·exact hkk.out k h1
    ·rw [show k = ⟨n,hlt⟩ from Fin.ext (by show k.val = n;omega)];exact h
   clear hk hkk
   generalize b.obj ⟨n,hlt⟩ = y at *
   have hbad:Hid _:=obj_bad y
   obtain ⟨w3,hw3,hY,hq⟩:=xcm wr 29 (objC obj0) (objC y)
   replace hX:=hX.later hq
   replace hb:=hb.trans (hq.mono hb.size)
   clear hq
   have y0:=(hY.cell 0).trans (show (objC y)[0]? = some (.bool y.there) from rfl)
   have y1:=(hY.cell 1).trans (show (objC y)[1]? = some (.string (mkS y.data)) from rfl)
   have yd:=hin.data
   have ys:=xde y.data
   have heq:=fun W=>neqv_obj y obj0 hin obj0_in W
   have hat:=fun k hk=>hY.attr_at k hk
   by_cases hd:16 < y.data.length
   ·have hdI:(16:Int) < (y.data.length:Int):=by omega
    have hF:Hid _:=hno.out (hbad.out.2 (.inr (.inl hd)))
    cases ht:y.there with
    | false =>
     rw [ht] at y0
     cases hs:same tObj y obj0 with
     | false =>
      rw [hs] at heq
      go_wp2_with (first
       | (refine xae (by rfl) 29 _ rfl w.heap.size (n * 5) rfl (objL y) _ ?hg Tryz.underlying29 rfl (xbq _) ?_;(case hg=>exact hrow))
       | (refine xac (by rfl) 29 rfl (objC obj0) xdk ?_)
       | (refine xai (by rfl) 29 _ _ rfl wr.heap.size rfl (objC y) rfl 29 (objC obj0) (xbq _) rfl (xdd _) ?hg w3 ?hW ?_;(case hg=>exact Has.new _ _ _);(case hW=>exact hw3);clear hw3)
       | (refine xab (by rfl) 29 _ rfl wr.heap.size rfl 29 (objC y) _ Tryz.underlying29 rfl (xbq _) ?hg ?_;(case hg=>exact hY))
       | (refine xar (by rfl) 29 #[] rfl (objC obj0) (by simpa using xgf) ?_)
       | (refine xbc (by rfl) .neq 29 _ _ _ rfl (objC y) (objC obj0) rfl rfl (.bool (!false)) xgk ?hg ?_;(case hg=>exact heq _))
       | fail)
      go_ret
      exact ⟨by rw [hF.out];rfl,hb⟩
     | true =>
      rw [hs] at heq
      go_wp2_with (first
       | (refine xae (by rfl) 29 _ rfl w.heap.size (n * 5) rfl (objL y) _ ?hg Tryz.underlying29 rfl (xbq _) ?_;(case hg=>exact hrow))
       | (refine xac (by rfl) 29 rfl (objC obj0) xdk ?_)
       | (refine xai (by rfl) 29 _ _ rfl wr.heap.size rfl (objC y) rfl 29 (objC obj0) (xbq _) rfl (xdd _) ?hg w3 ?hW ?_;(case hg=>exact Has.new _ _ _);(case hW=>exact hw3);clear hw3)
       | (refine xab (by rfl) 29 _ rfl wr.heap.size rfl 29 (objC y) _ Tryz.underlying29 rfl (xbq _) ?hg ?_;(case hg=>exact hY))
       | (refine xar (by rfl) 29 #[] rfl (objC obj0) (by simpa using xgf) ?_)
       | (refine xbc (by rfl) .neq 29 _ _ _ rfl (objC y) (objC obj0) rfl rfl (.bool (!true)) xgk ?hg ?_;(case hg=>exact heq _))
       | fail)
      go_ret
      exact ⟨by rw [hF.out];rfl,hb⟩
    | true =>
     rw [ht] at y0
     go_wp2_with (first
      | (refine xae (by rfl) 29 _ rfl w.heap.size (n * 5) rfl (objL y) _ ?hg Tryz.underlying29 rfl (xbq _) ?_;(case hg=>exact hrow))
      | (refine xac (by rfl) 29 rfl (objC obj0) xdk ?_)
      | (refine xai (by rfl) 29 _ _ rfl wr.heap.size rfl (objC y) rfl 29 (objC obj0) (xbq _) rfl (xdd _) ?hg w3 ?hW ?_;(case hg=>exact Has.new _ _ _);(case hW=>exact hw3);clear hw3)
      | (refine xab (by rfl) 29 _ rfl wr.heap.size rfl 29 (objC y) _ Tryz.underlying29 rfl (xbq _) ?hg ?_;(case hg=>exact hY))
      | (refine xar (by rfl) 29 #[] rfl (objC obj0) (by simpa using xgf) ?_)
      | (refine xbc (by rfl) .neq 29 _ _ _ rfl (objC y) (objC obj0) rfl rfl (.bool (!true)) xgk ?hg ?_;(case hg=>exact heq _))
      | fail)
     go_ret
     exact ⟨by rw [hF.out];rfl,hb⟩
   ·have hdI:¬ (16:Int) < (y.data.length:Int):=by omega
    cases ht:y.there with
    | false =>
     rw [ht] at y0
     cases hs:same tObj y obj0 with
     | false =>
      have hF:Hid _:=hno.out (hbad.out.2 (.inl ⟨ht,hs⟩))
      rw [hs] at heq
      go_wp2_with (first
       | (refine xae (by rfl) 29 _ rfl w.heap.size (n * 5) rfl (objL y) _ ?hg Tryz.underlying29 rfl (xbq _) ?_;(case hg=>exact hrow))
       | (refine xac (by rfl) 29 rfl (objC obj0) xdk ?_)
       | (refine xai (by rfl) 29 _ _ rfl wr.heap.size rfl (objC y) rfl 29 (objC obj0) (xbq _) rfl (xdd _) ?hg w3 ?hW ?_;(case hg=>exact Has.new _ _ _);(case hW=>exact hw3);clear hw3)
       | (refine xab (by rfl) 29 _ rfl wr.heap.size rfl 29 (objC y) _ Tryz.underlying29 rfl (xbq _) ?hg ?_;(case hg=>exact hY))
       | (refine xar (by rfl) 29 #[] rfl (objC obj0) (by simpa using xgf) ?_)
       | (refine xbc (by rfl) .neq 29 _ _ _ rfl (objC y) (objC obj0) rfl rfl (.bool (!false)) xgk ?hg ?_;(case hg=>exact heq _))
       | fail)
      go_ret
      exact ⟨by rw [hF.out];rfl,hb⟩
     | true =>
      have hthere:Hid (¬ (y.there = false ∧ same tObj y obj0 = false)):=fun h=>by rw [hs] at h;cases h.2
      rw [hs] at heq
      go_wp2_with (first
       | (refine xae (by rfl) 29 _ rfl w.heap.size (n * 5) rfl (objL y) _ ?hg Tryz.underlying29 rfl (xbq _) ?_;(case hg=>exact hrow))
       | (refine xac (by rfl) 29 rfl (objC obj0) xdk ?_)
       | (refine xai (by rfl) 29 _ _ rfl wr.heap.size rfl (objC y) rfl 29 (objC obj0) (xbq _) rfl (xdd _) ?hg w3 ?hW ?_;(case hg=>exact Has.new _ _ _);(case hW=>exact hw3);clear hw3)
       | (refine xab (by rfl) 29 _ rfl wr.heap.size rfl 29 (objC y) _ Tryz.underlying29 rfl (xbq _) ?hg ?_;(case hg=>exact hY))
       | (refine xar (by rfl) 29 #[] rfl (objC obj0) (by simpa using xgf) ?_)
       | (refine xbc (by rfl) .neq 29 _ _ _ rfl (objC y) (objC obj0) rfl rfl (.bool (!true)) xgk ?hg ?_;(case hg=>exact heq _))
       | fail)
      go_loopw [5] (fun i wz=>∃ k:Nat,k ≤ 3 ∧ i = .int .i64 k ∧ wz = w3 ∧ ∀ j,j < k → (y.attr j).length ≤ 16) (fun i _=>3 - (intOf i).toNat)
      case atStart=>exact ⟨0,by decide,rfl,rfl,fun j hj=>by omega⟩
      case round =>
       obtain ⟨k,hk3,rfl,hwz,hj⟩:=hrel
       have hwz:=hwz.symm
       subst hwz
       by_cases hk:k < 3
       ·have hkI:(k:Int) < 3:=by omega
        have hc:=hat k hk
        have hcl:=hin.attr k hk
        have hcs:=xde (y.attr k)
        by_cases hl:16 < (y.attr k).length
        ·have hlI:(16:Int) < ((y.attr k).length:Int):=by omega
         have hF:Hid _:=hno.out (hbad.out.2 (.inr (.inr ((attr_len y 0 (by decide)).2 ⟨k,hk,hl⟩))))
         go_wp2
         go_ret
         exact ⟨by rw [hF.out];rfl,hb⟩
        ·have hlI:¬ (16:Int) < ((y.attr k).length:Int):=by omega
         have hnx:Hid (∀ j,j < k + 1 → (y.attr j).length ≤ 16):=fun j hjk=>by
          by_cases h1:j < k
          ·exact hj j h1
          ·rw [show j = k by omega];omega
         clear hj
         go_wp2
         go_roundw
         case rel=>exact ⟨k + 1,by omega,by go_num,(by first | trivial | rfl),hnx.out⟩
         case measure=>simp [intOf];omega
       ·have hkI:¬ (k:Int) < 3:=by omega
        have hgood:Hid _:=hyes.out (by
         cases hv:isObjM y with
         | true=>rfl
         | false =>
          rcases hbad.out.1 hv with h1 | h1 | h1
          ·exact absurd h1 hthere.out
          ·omega
          ·obtain ⟨j,hj3,hjl⟩:=(attr_len y 0 (by decide)).1 h1
           have:=hj j (by omega)
           omega)
        go_wp2
        go_roundw
        case rel=>exact ⟨n + 1,by omega,by go_num,hX,hb,hgood.out⟩
        case measure=>simp [intOf];omega
    | true =>
     have hthere:Hid (¬ (y.there = false ∧ same tObj y obj0 = false)):=fun h=>by rw [ht] at h;cases h.1
     rw [ht] at y0
     go_wp2_with (first
      | (refine xae (by rfl) 29 _ rfl w.heap.size (n * 5) rfl (objL y) _ ?hg Tryz.underlying29 rfl (xbq _) ?_;(case hg=>exact hrow))
      | (refine xac (by rfl) 29 rfl (objC obj0) xdk ?_)
      | (refine xai (by rfl) 29 _ _ rfl wr.heap.size rfl (objC y) rfl 29 (objC obj0) (xbq _) rfl (xdd _) ?hg w3 ?hW ?_;(case hg=>exact Has.new _ _ _);(case hW=>exact hw3);clear hw3)
      | (refine xab (by rfl) 29 _ rfl wr.heap.size rfl 29 (objC y) _ Tryz.underlying29 rfl (xbq _) ?hg ?_;(case hg=>exact hY))
      | (refine xar (by rfl) 29 #[] rfl (objC obj0) (by simpa using xgf) ?_)
      | (refine xbc (by rfl) .neq 29 _ _ _ rfl (objC y) (objC obj0) rfl rfl (.bool (!true)) xgk ?hg ?_;(case hg=>exact heq _))
      | fail)
     go_loopw [5] (fun i wz=>∃ k:Nat,k ≤ 3 ∧ i = .int .i64 k ∧ wz = w3 ∧ ∀ j,j < k → (y.attr j).length ≤ 16) (fun i _=>3 - (intOf i).toNat)
     case atStart=>exact ⟨0,by decide,rfl,rfl,fun j hj=>by omega⟩
     case round =>
      obtain ⟨k,hk3,rfl,hwz,hj⟩:=hrel
      have hwz:=hwz.symm
      subst hwz
      by_cases hk:k < 3
      ·have hkI:(k:Int) < 3:=by omega
       have hc:=hat k hk
       have hcl:=hin.attr k hk
       have hcs:=xde (y.attr k)
       by_cases hl:16 < (y.attr k).length
       ·have hlI:(16:Int) < ((y.attr k).length:Int):=by omega
        have hF:Hid _:=hno.out (hbad.out.2 (.inr (.inr ((attr_len y 0 (by decide)).2 ⟨k,hk,hl⟩))))
        go_wp2
        go_ret
        exact ⟨by rw [hF.out];rfl,hb⟩
       ·have hlI:¬ (16:Int) < ((y.attr k).length:Int):=by omega
        have hnx:Hid (∀ j,j < k + 1 → (y.attr j).length ≤ 16):=fun j hjk=>by
         by_cases h1:j < k
         ·exact hj j h1
         ·rw [show j = k by omega];omega
        clear hj
        go_wp2
        go_roundw
        case rel=>exact ⟨k + 1,by omega,by go_num,(by first | trivial | rfl),hnx.out⟩
        case measure=>simp [intOf];omega
      ·have hkI:¬ (k:Int) < 3:=by omega
       have hgood:Hid _:=hyes.out (by
        cases hv:isObjM y with
        | true=>rfl
        | false =>
         rcases hbad.out.1 hv with h1 | h1 | h1
         ·exact absurd h1 hthere.out
         ·omega
         ·obtain ⟨j,hj3,hjl⟩:=(attr_len y 0 (by decide)).1 h1
          have:=hj j (by omega)
          omega)
       go_wp2
       go_roundw
       case rel=>exact ⟨n + 1,by omega,by go_num,hX,hb,hgood.out⟩
       case measure=>simp [intOf];omega
  ·have e5:n = 6:=by omega
   subst e5
   have hall:Hid (∀ k:Fin 6,isObjM (b.obj k) = true):=fun k=>hk k k.isLt
   clear hk hlt hn
   go_wp2
   go_loopw [6] (fun i wz=>∃ k:Nat,k ≤ 3 ∧ i = .int .i64 k ∧ wz = wr ∧ ∀ j:Fin 3,j.val < k → xec (b.last j) = true) (fun i _=>3 - (intOf i).toNat)
   case atStart=>exact ⟨0,by decide,rfl,rfl,fun j hj=>by omega⟩
   case round =>
    obtain ⟨k,hk3,rfl,hwz,hj⟩:=hrel
    have hwz:=hwz.symm
    subst hwz
    by_cases hlt:k < 3
    ·have hltI:(k:Int) < 3:=by omega
     have hin:=hB0.last ⟨k,hlt⟩
     have hrow:=hX.last_at ⟨k,hlt⟩
     have c0:=hrow 0 _ rfl
     have c1:=hrow 1 _ rfl
     have c2:=hrow 2 _ rfl
     have hno:Hid (xec (b.last ⟨k,hlt⟩) = false → xdu b = false):=fun h=>by
      cases hq:xdu b with
      | false=>rfl
      | true=>have:=(hM.out.1 hq).2 ⟨k,hlt⟩;rw [h] at this;cases this
     have hyes:Hid (xec (b.last ⟨k,hlt⟩) = true → ∀ j:Fin 3,j.val < k + 1 → xec (b.last j) = true):=fun h j hjk=>by
      by_cases h1:j.val < k
      ·exact hj j h1
      ·rw [show j = ⟨k,hlt⟩ from Fin.ext (by show j.val = k;omega)];exact h
     clear hj hrow
     generalize b.last ⟨k,hlt⟩ = y at *
     obtain ⟨sq,⟨cd,dt⟩⟩:=y
     have hsq:sq < 4294967296:=hin.seq
     have hcd:cd < 256:=hin.code
     have c0:wr.cell? ⟨w.heap.size,30 + k * 3,none⟩ = some (.int .u32 (sq:Int)):=c0
     have c1:wr.cell? ⟨w.heap.size,30 + k * 3 + 1,none⟩ = some (.int .u8 (cd:Int)):=c1
     have c2:wr.cell? ⟨w.heap.size,30 + k * 3 + 1 + 1,none⟩ = some (.string (mkS dt)):=c2
     by_cases h1:dt.length = 0
     ·have he1:decide (dt.length = 0) = true:=decide_eq_true h1
      by_cases h2:cd ≤ 3
      ·have h2I:¬ (3:Int) < (cd:Int):=by omega
       by_cases h3:sq = 0
       ·subst h3
        by_cases h4:cd = 0
        ·subst h4
         have hF:Hid _:=hyes.out ((xgj _).2 ⟨List.eq_nil_of_length_eq_zero h1,by show 0 ≤ 3;decide,fun _=>rfl⟩)
         replace h1:Hid _:=h1
         go_wp2_with (first
          | (refine xfs (.bool (!true)) (by rfl) (xfx _ _ _ _ rfl dt rfl rfl true he1) ?_))
         go_roundw
         case rel=>first | exact ⟨k + 1,by omega,by go_num,hF.out⟩ | exact ⟨k + 1,by omega,by go_num,(by first | trivial | rfl),hF.out⟩
         case measure=>simp [intOf];omega
        ·have h4I:((cd:Int) != 0) = true:=by rw [bne_iff_ne];omega
         have h4N:(cd != 0) = true:=by rw [bne_iff_ne];omega
         have hF:Hid _:=hno.out (by rw [← Bool.not_eq_true,xgj];rintro ⟨_,_,h⟩;exact h4 (h rfl))
         replace h1:Hid _:=h1
         go_wp2_with (first
          | (refine xfs (.bool (!true)) (by rfl) (xfx _ _ _ _ rfl dt rfl rfl true he1) ?_))
         go_ret
         exact ⟨by rw [hF.out];rfl,hb⟩
       ·have h3I:((sq:Int) == 0) = false:=by rw [beq_eq_false_iff_ne];omega
        have h3N:(sq == 0) = false:=by rw [beq_eq_false_iff_ne];omega
        have hF:Hid _:=hyes.out ((xgj _).2 ⟨List.eq_nil_of_length_eq_zero h1,h2,fun e=>absurd e h3⟩)
        replace h1:Hid _:=h1
        go_wp2_with (first
         | (refine xfs (.bool (!true)) (by rfl) (xfx _ _ _ _ rfl dt rfl rfl true he1) ?_))
        go_roundw
        case rel=>first | exact ⟨k + 1,by omega,by go_num,hF.out⟩ | exact ⟨k + 1,by omega,by go_num,(by first | trivial | rfl),hF.out⟩
        case measure=>simp [intOf];omega
      ·have h2I:(3:Int) < (cd:Int):=by omega
       have hF:Hid _:=hno.out (by rw [← Bool.not_eq_true,xgj];rintro ⟨_,h,_⟩;exact h2 h)
       replace h1:Hid _:=h1
       go_wp2_with (first
        | (refine xfs (.bool (!true)) (by rfl) (xfx _ _ _ _ rfl dt rfl rfl true he1) ?_))
       go_ret
       exact ⟨by rw [hF.out];rfl,hb⟩
     ·have he1:decide (dt.length = 0) = false:=decide_eq_false h1
      have hF:Hid _:=hno.out (by rw [← Bool.not_eq_true,xgj];rintro ⟨h,_⟩;exact h1 (by have h:dt = []:=h;rw [h];rfl))
      replace h1:Hid _:=h1
      go_wp2_with (first
       | (refine xfs (.bool (!false)) (by rfl) (xfx _ _ _ _ rfl dt rfl rfl false he1) ?_))
      go_ret
      exact ⟨by rw [hF.out];rfl,hb⟩
    ·have hltI:¬ (k:Int) < 3:=by omega
     have hF:Hid (xdu b = true):=hM.out.2 ⟨hall.out,fun j=>hj j (by have:=j.isLt;omega)⟩
     go_wp2
     go_ret
     exact ⟨by rw [hF.out];rfl,hb⟩
end Go.Proofs.YtecilienolabfaaGreatDoor
