/- A slice of bytes of one's own: what it reads as, its conversion to a string (of stage 6's OwnBytes). -/
import Derived.Test.YtkkjdihmjcaibabLogMem
import Derived.Test.YtkkjdihmjcaibabPlan
import Derived.Laws.BytesArg
import Derived.Maps.AppendAt
import Derived.Laws.IdiomCopy
namespace Go.Proofs.Ytkkjdihmjcaibab
set_option linter.unusedSimpArgs false
set_option linter.unusedVariables false
set_option maxRecDepth 100000
open Go.RowKit

def byV (D : List UInt8) : List Value := D.map fun x => .int .u8 (x.toNat : Int)
theorem byV_len (D : List UInt8) : (byV D).length = D.length := by unfold byV; rw [List.length_map]
theorem byV_one (D : List UInt8) : ∀ u ∈ byV D, u.oneCell' = true := by
  intro u hu
  obtain ⟨x, _, rfl⟩ := List.mem_map.1 hu
  rfl

def lenV : Value → Nat
  | .slice _ n _ => n
  | _ => 0

/-- The slice v is one's own, in a block from B on, and reads as the bytes D. -/
def OwnB (w : World) (B : Nat) (v : Value) (D : List UInt8) : Prop := w.ownsRow B 5 1 v D.length (byV D)

theorem OwnB.nil (w : World) (B : Nat) : OwnB w B (.slice none 0 0) [] := ⟨rfl, .inl ⟨rfl, rfl⟩⟩

theorem OwnB.of {w w' : World} {B : Nat} {v : Value} {D : List UInt8} (h : OwnB w B v D) (hk : ∀ g, v.ownBlock = some g → w'.heap[g]? = w.heap[g]?) : OwnB w' B v D := by
  refine ⟨h.1, ?_⟩
  rcases h.2 with h0 | ⟨g, cap, cur, hv, hg, hc, hr⟩
  · exact .inl h0
  · refine .inr ⟨g, cap, cur, hv, hg, ?_, hr⟩
    rw [hk g (by rw [hv]; rfl)]
    exact hc
theorem OwnB.lt {w : World} {B : Nat} {v : Value} {D : List UInt8} (h : OwnB w B v D) {g : Nat} (hg : v.ownBlock = some g) : g < w.heap.size := by
  rcases h.2 with ⟨hv, _⟩ | ⟨g', cap, cur, hv, _, hc, _⟩
  · rw [hv] at hg; cases hg
  · rw [hv] at hg
    obtain rfl : g' = g := Option.some.inj hg
    exact (Array.getElem?_eq_some_iff.1 hc).1
theorem OwnB.ge {w : World} {B : Nat} {v : Value} {D : List UInt8} (h : OwnB w B v D) {g : Nat} (hg : v.ownBlock = some g) : B ≤ g := by
  rcases h.2 with ⟨hv, _⟩ | ⟨g', cap, cur, hv, hb, hc, _⟩
  · rw [hv] at hg; cases hg
  · rw [hv] at hg
    obtain rfl : g' = g := Option.some.inj hg
    exact hb
theorem OwnB.later {w w' : World} {B : Nat} {v : Value} {D : List UInt8} (h : OwnB w B v D) (hb : Below w.heap.size w w') : OwnB w' B v D := h.of fun g hg => hb.block g (h.lt hg)
theorem OwnB.ne {w : World} {B : Nat} {v : Value} {D : List UInt8} (h : OwnB w B v D) {g : Nat} {t : TypeId} {c : Array Value} (ho : Has w g t c) (ht : t ≠ 5) : v.ownBlock ≠ some g := by
  intro e
  rcases h.2 with ⟨hv, _⟩ | ⟨g', cap, cur, hv, hb, hc, _⟩
  · rw [hv] at e; cases e
  · rw [hv] at e
    obtain rfl : g' = g := Option.some.inj e
    unfold Has at ho
    rw [ho] at hc
    injection hc with hc
    injection hc with _ h2
    exact ht h2
theorem Has.grown {w w' : World} {B : Nat} {v : Value} {D : List UInt8} {g : Nat} {t : TypeId} {c : Array Value} (h : Has w g t c) (ho : OwnB w B v D) (ht : t ≠ 5) (hg : w.grownBy w' v.ownBlock) : Has w' g t c := by
  unfold Has
  rw [hg.block g h.lt (fun e => ho.ne h ht e.symm)]
  exact h

theorem OwnB.cases {w : World} {B : Nat} {v : Value} {D : List UInt8} (h : OwnB w B v D) : (v = .slice none 0 0 ∧ D = []) ∨ ∃ g cap, v = .slice (some ⟨g, 0, none⟩) D.length cap ∧ D.length ≤ cap ∧ cap ≤ 9223372036854775807 ∧ B ≤ g ∧ (∃ cur, Has w g 5 cur ∧ cur.size = cap ∧ cur.toList.take D.length = byV D) := by
  rcases h.2 with ⟨hv, hn⟩ | ⟨g, cap, cur, hv, hb, hc, hle, hm, hs, hx⟩
  · exact .inl ⟨hv, List.length_eq_zero_iff.1 hn⟩
  · rw [Nat.mul_one] at hs hx
    exact .inr ⟨g, cap, hv, hle, hm, hb, cur, hc, hs, hx⟩

theorem row_cell {w : World} {g : Nat} {D : List UInt8} {cur : Array Value} (hh : Has w g 5 cur) (hx : cur.toList.take D.length = byV D) (i : Nat) (hi : i < D.length) : w.cell? ⟨g, i, none⟩ = some (.int .u8 ((D[i]).toNat : Int)) := by
  rw [hh.cell, ← Array.getElem?_toList]
  have : (cur.toList.take D.length)[i]? = (byV D)[i]? := by rw [hx]
  rw [List.getElem?_take, if_pos hi] at this
  rw [this]
  unfold byV
  rw [List.getElem?_map, List.getElem?_eq_getElem hi]
  rfl

theorem OwnB.conv {w : World} {B : Nat} {v : Value} {D : List UInt8} (h : OwnB w B v D) : (convert 45 9 v).run Try.prog w = .ok (.string (mkS D)) w := by
  rcases h.cases with ⟨rfl, rfl⟩ | ⟨g, cap, rfl, hle, hm, hb, cur, hh, hs, hx⟩
  · rw [run_convert_bytes_nil (P := Try.prog) w 45 5 Try.underlying45 Try.underlying5 0 0 9 Try.underlying9]
    rfl
  · rw [run_convert_bytes_arg (P := Try.prog) w 45 5 Try.underlying45 Try.underlying5 g 0 D.length cap (D.map fun x => (x.toNat : Int)) (by rw [List.length_map]) (fun i hi => by
      rw [Nat.zero_add, row_cell hh hx i hi]
      congr 2
      rw [List.getD_eq_getElem?_getD, List.getElem?_map, List.getElem?_eq_getElem hi]
      rfl) 9 Try.underlying9]
    unfold strOfNums mkS
    have e : (fun n : Int => UInt8.ofNat n.toNat) ∘ (fun x : UInt8 => (x.toNat : Int)) = id := by
      funext x
      simp
    rw [List.map_map, e, List.map_id]
end Go.Proofs.Ytkkjdihmjcaibab
