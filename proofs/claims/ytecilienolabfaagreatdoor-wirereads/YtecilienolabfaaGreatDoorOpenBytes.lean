/- A row of bytes that comes in. -/
import Derived.Test.YtecilienolabfaaGreatDoorOpenMsg
import Derived.Test.YtecilienolabfaaGreatDoorPackStraw
namespace Go.Proofs.YtecilienolabfaaGreatDoor
set_option linter.unusedSimpArgs false
set_option linter.unusedVariables false
set_option maxRecDepth 100000
open Go.ChangeShapes Go.WideShapes Go.ChangeAt Go.RowKit
theorem shape_lt {w:World} {b:Nat} {x:TypeId × Nat} (h:w.shape? b = some x):b < w.heap.size:=by
 unfold World.shape? at h
 cases hb:w.heap[b]? with
 | none=>rw [hb] at h;cases h
 | some o=>exact (Array.getElem?_eq_some_iff.1 hb).1
theorem open_bytes {H:Type} {enc:TypeId × Value → H} {W:World} {base:Nat} {v:Value} {d:DataW H} {p:List MemPlace} (ok:Value.okWide Tryz.prog W .any base 51 v) (h:DataW.Trod enc Tryz.prog W 0 (fun _=>true) true 51 v d p) :
  ∃ ao c xs,v = .slice ao xs.length c ∧ By W ao c xs ∧ ∀ ad,ao = some ad → ad.block < W.heap.size:=by
 obtain ⟨ao,c,xs,hv,hS,_⟩:=open_rows (P:=Tryz.prog) (fun x:UInt8=>[B x]) (fun _=>True) 1 Tryz.underlying51 co_u8 (fun fuel y cs h=>by
  obtain ⟨k,q,hk⟩:=reads_byte h
  refine ⟨UInt8.ofNat k,?_,trivial⟩
  rw [q]
  unfold B
  rw [UInt8.toNat_ofNat',Nat.mod_eq_of_lt hk]) (fun _=>rfl) ok h
 refine ⟨ao,c,xs,hv,⟨?_,hS.cap,hS.nil,fun ad had j u hu=>?_⟩,fun ad had=>?_⟩
 ·have:=hS.le
  rw [List.length_map] at this
  exact this
 ·have hj:j < xs.length:=by
   have:=(List.getElem?_eq_some_iff.1 hu).1
   rwa [xdx] at this
  have:=hS.at' ad had j (by rw [List.length_map];exact hj) 0 (by decide)
  rw [Nat.mul_one,Nat.add_zero] at this
  rw [this,← hu,List.getElem_map]
  show some (B xs[j]) = (Bs xs)[j]?
  unfold Bs
  rw [List.getElem?_map,List.getElem?_eq_getElem hj]
  rfl
 ·subst had hv
  have ok':Cell.okWide Tryz.prog W .any base 51 (.slice (some ad) xs.length c):=by
   simpa [Value.okWide,Tryz.underlying51] using ok
  have ok2:Cell.ok Tryz.prog W .any base 51 (.slice (some ad) xs.length c):=by
   simpa [Cell.okWide,Tryz.underlying51] using ok'
  have ok3:xs.length ≤ c ∧ (c:Int) ≤ IntKind.i64.max ∧ W.has Tryz.prog .any base ad 5 c:=by
   simpa [Cell.ok,Tryz.underlying51] using ok2
  obtain ⟨_,_,row,cells,hsh,_⟩:=ok3.2.2
  exact shape_lt hsh
end Go.Proofs.YtecilienolabfaaGreatDoor
