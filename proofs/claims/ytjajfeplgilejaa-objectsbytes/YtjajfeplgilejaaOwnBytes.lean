/- A slice of bytes of one's own: what it reads as, append, copy, conversion. -/
import Derived.Test.YtjajfeplgilejaaObjSteps
import Derived.Test.YtjajfeplgilejaaBytesFacts
import Derived.Laws.BytesArg
import Derived.Maps.AppendAt
import Derived.Laws.IdiomCopy
namespace Go.Proofs.Ytjajfeplgilejaa
set_option linter.unusedSimpArgs false
set_option linter.unusedVariables false
set_option maxRecDepth 100000
open Go.RowKit

def byV (D : List UInt8) : List Value := D.map fun x => .int .u8 (x.toNat : Int)
theorem byV_len (D : List UInt8) : (byV D).length = D.length := by unfold byV; rw [List.length_map]
theorem byV_one (D : List UInt8) : ∀ u ∈ byV D, u.oneCell' = true := by
  intro u hu
  obtain ⟨x, _, rfl⟩ := List.mem_map.1 hu
  rfl

def lenV : Value → Nat
  | .slice _ n _ => n
  | _ => 0

/-- The slice v is one's own, in a block from B on, and reads as the bytes D. -/
def OwnB (w : World) (B : Nat) (v : Value) (D : List UInt8) : Prop := w.ownsRow B 5 1 v D.length (byV D)

theorem OwnB.nil (w : World) (B : Nat) : OwnB w B (.slice none 0 0) [] := ⟨rfl, .inl ⟨rfl, rfl⟩⟩

theorem OwnB.of {w w' : World} {B : Nat} {v : Value} {D : List UInt8} (h : OwnB w B v D) (hk : ∀ g, v.ownBlock = some g → w'.heap[g]? = w.heap[g]?) : OwnB w' B v D := by
  refine ⟨h.1, ?_⟩
  rcases h.2 with h0 | ⟨g, cap, cur, hv, hg, hc, hr⟩
  · exact .inl h0
  · refine .inr ⟨g, cap, cur, hv, hg, ?_, hr⟩
    rw [hk g (by rw [hv]; rfl)]
    exact hc
theorem OwnB.lt {w : World} {B : Nat} {v : Value} {D : List UInt8} (h : OwnB w B v D) {g : Nat} (hg : v.ownBlock = some g) : g < w.heap.size := by
  rcases h.2 with ⟨hv, _⟩ | ⟨g', cap, cur, hv, _, hc, _⟩
  · rw [hv] at hg; cases hg
  · rw [hv] at hg
    obtain rfl : g' = g := Option.some.inj hg
    exact (Array.getElem?_eq_some_iff.1 hc).1
theorem OwnB.ge {w : World} {B : Nat} {v : Value} {D : List UInt8} (h : OwnB w B v D) {g : Nat} (hg : v.ownBlock = some g) : B ≤ g := by
  rcases h.2 with ⟨hv, _⟩ | ⟨g', cap, cur, hv, hb, hc, _⟩
  · rw [hv] at hg; cases hg
  · rw [hv] at hg
    obtain rfl : g' = g := Option.some.inj hg
    exact hb
theorem OwnB.later {w w' : World} {B : Nat} {v : Value} {D : List UInt8} (h : OwnB w B v D) (hb : Below w.heap.size w w') : OwnB w' B v D := h.of fun g hg => hb.block g (h.lt hg)
theorem OwnB.ne {w : World} {B : Nat} {v : Value} {D : List UInt8} (h : OwnB w B v D) {g : Nat} {t : TypeId} {c : Array Value} (ho : Has w g t c) (ht : t ≠ 5) : v.ownBlock ≠ some g := by
  intro e
  rcases h.2 with ⟨hv, _⟩ | ⟨g', cap, cur, hv, hb, hc, _⟩
  · rw [hv] at e; cases e
  · rw [hv] at e
    obtain rfl : g' = g := Option.some.inj e
    unfold Has at ho
    rw [ho] at hc
    injection hc with hc
    injection hc with _ h2
    exact ht h2
theorem Has.grown {w w' : World} {B : Nat} {v : Value} {D : List UInt8} {g : Nat} {t : TypeId} {c : Array Value} (h : Has w g t c) (ho : OwnB w B v D) (ht : t ≠ 5) (hg : w.grownBy w' v.ownBlock) : Has w' g t c := by
  unfold Has
  rw [hg.block g h.lt (fun e => ho.ne h ht e.symm)]
  exact h

theorem OwnB.cases {w : World} {B : Nat} {v : Value} {D : List UInt8} (h : OwnB w B v D) : (v = .slice none 0 0 ∧ D = []) ∨ ∃ g cap, v = .slice (some ⟨g, 0, none⟩) D.length cap ∧ D.length ≤ cap ∧ cap ≤ 9223372036854775807 ∧ B ≤ g ∧ (∃ cur, Has w g 5 cur ∧ cur.size = cap ∧ cur.toList.take D.length = byV D) := by
  rcases h.2 with ⟨hv, hn⟩ | ⟨g, cap, cur, hv, hb, hc, hle, hm, hs, hx⟩
  · exact .inl ⟨hv, List.length_eq_zero_iff.1 hn⟩
  · rw [Nat.mul_one] at hs hx
    exact .inr ⟨g, cap, hv, hle, hm, hb, cur, hc, hs, hx⟩

theorem row_cell {w : World} {g : Nat} {D : List UInt8} {cur : Array Value} (hh : Has w g 5 cur) (hx : cur.toList.take D.length = byV D) (i : Nat) (hi : i < D.length) : w.cell? ⟨g, i, none⟩ = some (.int .u8 ((D[i]).toNat : Int)) := by
  rw [hh.cell, ← Array.getElem?_toList]
  have : (cur.toList.take D.length)[i]? = (byV D)[i]? := by rw [hx]
  rw [List.getElem?_take, if_pos hi] at this
  rw [this]
  unfold byV
  rw [List.getElem?_map, List.getElem?_eq_getElem hi]
  rfl

theorem OwnB.conv {w : World} {B : Nat} {v : Value} {D : List UInt8} (h : OwnB w B v D) : (convert 48 9 v).run Try.prog w = .ok (.string (mkS D)) w := by
  rcases h.cases with ⟨rfl, rfl⟩ | ⟨g, cap, rfl, hle, hm, hb, cur, hh, hs, hx⟩
  · rw [run_convert_bytes_nil (P := Try.prog) w 48 5 Try.underlying48 Try.underlying5 0 0 9 Try.underlying9]
    rfl
  · rw [run_convert_bytes_arg (P := Try.prog) w 48 5 Try.underlying48 Try.underlying5 g 0 D.length cap (D.map fun x => (x.toNat : Int)) (by rw [List.length_map]) (fun i hi => by
      rw [Nat.zero_add, row_cell hh hx i hi]
      congr 2
      rw [List.getD_eq_getElem?_getD, List.getElem?_map, List.getElem?_eq_getElem hi]
      rfl) 9 Try.underlying9]
    unfold strOfNums mkS
    have e : (fun n : Int => UInt8.ofNat n.toNat) ∘ (fun x : UInt8 => (x.toNat : Int)) = id := by
      funext x
      simp
    rw [List.map_map, e, List.map_id]

/-- What a change of one's own slice leaves as it was. -/
structure Kept (B : Nat) (v : Value) (w w' : World) : Prop where
  block : ∀ k, k < w.heap.size → v.ownBlock ≠ some k → w'.heap[k]? = w.heap[k]?
  below : ∀ w0 : World, Below B w0 w → Below B w0 w'

theorem Kept.refl (B : Nat) (v : Value) (w : World) : Kept B v w w := ⟨fun _ _ _ => rfl, fun _ h => h⟩
theorem Kept.has {B : Nat} {v : Value} {w w' : World} {D : List UInt8} {g : Nat} {t : TypeId} {c : Array Value} (hk : Kept B v w w') (ho : OwnB w B v D) (h : Has w g t c) (ht : t ≠ 5) : Has w' g t c := by
  unfold Has
  rw [hk.block g h.lt (ho.ne h ht)]
  exact h
theorem kept_grown {B : Nat} {v : Value} {w w' : World} {D : List UInt8} (hB : B ≤ w.heap.size) (ho : OwnB w B v D) (hg : w.grownBy w' v.ownBlock) : Kept B v w w' :=
  ⟨fun k hk hn => hg.block k hk (fun e => hn e.symm), fun w0 h => h.grown hg hB (fun k hk => ho.ge hk)⟩

def writeA (c : Array Value) (o : Nat) : List Value → Array Value
  | [] => c
  | v :: vs => writeA (c.setIfInBounds o v) (o + 1) vs
theorem writeA_size (vs : List Value) : ∀ (c : Array Value) (o : Nat), (writeA c o vs).size = c.size := by
  induction vs with
  | nil => intro c o; rfl
  | cons v vs ih => intro c o; show (writeA _ _ vs).size = _; rw [ih]; simp
theorem writeA_list (vs : List Value) : ∀ (c : Array Value) (o : Nat), o + vs.length ≤ c.size → (writeA c o vs).toList = c.toList.take o ++ vs ++ c.toList.drop (o + vs.length) := by
  induction vs with
  | nil =>
    intro c o h
    show c.toList = _
    simp
  | cons v vs ih =>
    intro c o h
    rw [List.length_cons] at h
    show (writeA (c.setIfInBounds o v) (o + 1) vs).toList = _
    rw [ih _ _ (by simp; omega), Array.toList_setIfInBounds]
    have ho : o < c.toList.length := by rw [Array.length_toList]; omega
    rw [List.take_succ_eq_append_getElem (by rw [List.length_set]; exact ho), List.getElem_set_self, List.take_set_of_le (Nat.le_refl _), List.length_cons, List.drop_set_of_lt (by omega)]
    simp [Nat.add_assoc, Nat.add_comm 1]
theorem Has.cells {w : World} {g : Nat} {t : TypeId} : ∀ (vs : List Value) {c : Array Value} (o : Nat), Has w g t c → Has (w.setCells g o vs) g t (writeA c o vs) := by
  intro vs
  induction vs generalizing w with
  | nil => intro c o h; exact h
  | cons v vs ih => intro c o h; exact ih (o + 1) (h.set o v)
theorem cells_block {w : World} {g k : Nat} (hk : k ≠ g) : ∀ (vs : List Value) (o : Nat), (w.setCells g o vs).heap[k]? = w.heap[k]? := by
  intro vs
  induction vs generalizing w with
  | nil => intro o; rfl
  | cons v vs ih =>
    intro o
    show ((w.setCell ⟨g, o, none⟩ v).setCells g (o + 1) vs).heap[k]? = _
    rw [ih]
    exact Below.heap_setCell w ⟨g, o, none⟩ v k (fun e => hk e)
end Go.Proofs.Ytjajfeplgilejaa
