/- What comes in, opened: ballots by value, rows of steps. -/
import Derived.Test.YtlcappkokdgpgaaBalMem
import Derived.Test.YtlcappkokdgpgaaPackMaps
import Derived.Test.YtlcappkokdgpgaaPackTools
namespace Go.Proofs.Ytlcappkokdgpgaa
set_option linter.unusedSimpArgs false
set_option linter.unusedVariables false
set_option maxRecDepth 100000
open Go.ChangeShapes Go.WideShapes Go.ChangeAt Go.RowKit

variable {H : Type} {enc : TypeId × Value → H} {W : World} {base : Nat} {spare : Nat → Bool} {held : Bool} {fuel : Nat} {y : DataW H × List MemPlace}

theorem list2 {α : Type} (l : List α) (h : l.length = 2) : ∃ a b, l = [a, b] := by
  match l, h with
  | [a, b], _ => exact ⟨a, b, rfl⟩

theorem reads_bal {cs : List Value} (h : DataW.trod enc Try.prog W base spare held fuel 29 cs = some y) : ∃ b : BalV, cs = (balC b).toList ∧ BalOk b := by
  obtain ⟨xs, n, _, _, hl, hxl, hf⟩ := DataW.trod_struct Try.underlying29 h
  rw [cells_bal] at hl
  have hxl : xs.length = 2 := hxl
  obtain ⟨c0, c1, rfl⟩ := list2 cs hl
  have h0 : DataW.trod enc Try.prog W base spare held n 27 (([c0, c1].drop 0).take (Try.prog.cellsOf 27)) = xs[0]? := hf 0 _ rfl
  have h1 : DataW.trod enc Try.prog W base spare held n 5 (([c0, c1].drop 1).take (Try.prog.cellsOf 5)) = xs[1]? := hf 1 _ rfl
  rw [cells_u32] at h0
  rw [cells_u8] at h1
  obtain ⟨y0, e0⟩ := some_of h0 (by omega)
  obtain ⟨y1, e1⟩ := some_of h1 (by omega)
  obtain ⟨x0, q0, _, w0⟩ := DataW.trod_int Try.underlying27 e0
  obtain ⟨x1, q1, _, w1⟩ := DataW.trod_int Try.underlying5 e1
  simp at q0 q1
  subst q0 q1
  have b0 := bounds_u32 w0
  have b1 := bounds_u8 w1
  obtain ⟨k, rfl⟩ := Int.eq_ofNat_of_zero_le b0.1
  obtain ⟨o, rfl⟩ := Int.eq_ofNat_of_zero_le b1.1
  exact ⟨⟨k, o⟩, rfl, ⟨show k < 4294967296 by omega, show o < 256 by omega⟩⟩

theorem open_bal {v : Value} {d : DataW H} {p : List MemPlace} (ok : Value.okWide Try.prog W .any base 29 v) (h : DataW.Trod enc Try.prog W 0 (fun _ => true) true 29 v d p) :
    ∃ b : BalV, v = .agg (balC b) ∧ BalOk b := by
  obtain ⟨cs, rfl, hsz⟩ := okWide_struct Try.underlying29 ok
  obtain ⟨fuel, hf⟩ := h
  obtain ⟨x, hx, hk⟩ := reads_bal hf
  exact ⟨x, by rw [show cs = balC x from Array.toList_inj.1 hx], hk⟩

/-- A step of a law's row. -/
structure StepV where
  acc : Bool
  b : BalV
  x : IncV

structure StepOk (s : StepV) : Prop where
  b : BalOk s.b
  x : IncOk s.x

def stepL (s : StepV) : List Value := [.bool s.acc, .int .u32 s.b.n, .int .u8 s.b.who, .int .u8 s.x.kind, .int .u8 s.x.osd, .int .i64 s.x.n]
def stepR (l : List StepV) : List (List Value) := l.map stepL

theorem cells_step : Try.prog.cellsOf 35 = 6 := by kernel_rfl
theorem step_size (s : StepV) : (Try.prog.info? 35).map (·.size) = some (stepL s).toArray.size := by show _ = some 6; kernel_rfl
theorem step_zero : (Try.prog.info? 35).map (·.zero) = some (some (.agg (stepL ⟨false, bal0, inc0⟩).toArray)) := by kernel_rfl
theorem step_one (s : StepV) : (stepL s).toArray.all (·.oneCell') = true := by simp [stepL, Value.oneCell']

theorem list6 {α : Type} (l : List α) (h : l.length = 6) : ∃ a b c d e f, l = [a, b, c, d, e, f] := by
  match l, h with
  | [a, b, c, d, e, f], _ => exact ⟨a, b, c, d, e, f, rfl⟩

theorem reads_step {cs : List Value} (h : DataW.trod enc Try.prog W base spare held fuel 35 cs = some y) : ∃ s : StepV, cs = stepL s ∧ StepOk s := by
  obtain ⟨xs, n, _, _, hl, hxl, hf⟩ := DataW.trod_struct Try.underlying35 h
  rw [cells_step] at hl
  have hxl : xs.length = 3 := hxl
  obtain ⟨c0, c1, c2, c3, c4, c5, rfl⟩ := list6 cs hl
  have h0 : DataW.trod enc Try.prog W base spare held n 4 (([c0, c1, c2, c3, c4, c5].drop 0).take (Try.prog.cellsOf 4)) = xs[0]? := hf 0 _ rfl
  have h1 : DataW.trod enc Try.prog W base spare held n 29 (([c0, c1, c2, c3, c4, c5].drop 1).take (Try.prog.cellsOf 29)) = xs[1]? := hf 1 _ rfl
  have h2 : DataW.trod enc Try.prog W base spare held n 31 (([c0, c1, c2, c3, c4, c5].drop 3).take (Try.prog.cellsOf 31)) = xs[2]? := hf 2 _ rfl
  rw [cells_bool] at h0
  rw [cells_bal] at h1
  rw [cells_inc] at h2
  obtain ⟨y0, e0⟩ := some_of h0 (by omega)
  obtain ⟨y1, e1⟩ := some_of h1 (by omega)
  obtain ⟨y2, e2⟩ := some_of h2 (by omega)
  obtain ⟨x0, q0, _⟩ := DataW.trod_bool Try.underlying4 e0
  obtain ⟨b, q1, ok1⟩ := reads_bal e1
  obtain ⟨x, q2, ok2⟩ := reads_inc e2
  simp [balC, incC] at q0 q1 q2
  obtain ⟨rfl, rfl⟩ := q1
  obtain ⟨rfl, rfl, rfl⟩ := q2
  subst q0
  exact ⟨⟨x0, b, x⟩, rfl, ⟨ok1, ok2⟩⟩

theorem open_steps {v : Value} {d : DataW H} {p : List MemPlace} (ok : Value.okWide Try.prog W .any base 22 v) (h : DataW.Trod enc Try.prog W 0 (fun _ => true) true 22 v d p) :
    ∃ (ao : Option Addr) (c : Nat) (xs : List StepV), v = .slice ao xs.length c ∧ Sl W ao c 6 (stepR xs) ∧ ∀ x ∈ xs, StepOk x :=
  open_rows stepL StepOk 6 Try.underlying22 cells_step (fun _ _ _ h => reads_step h) (fun _ => rfl) ok h

/-- What lies at a place of such a row. -/
theorem step_at {w : World} {ad : Addr} {c : Nat} {l : List StepV} (h : Sl w (some ad) c 6 (stepR l)) (i : Nat) (hi : i < l.length) : ∀ j v, (stepL l[i])[j]? = some v → w.cell? ((ad.add (i * 6)).add j) = some v := by
  intro j v hj
  have hlt : j < 6 := (List.getElem?_eq_some_iff.1 hj).1
  have := h.at' ad rfl i (by rw [stepR, List.length_map]; exact hi) j hlt
  rw [Go.Deep.add_add, this, ← hj]
  simp [stepR]
theorem step_le {w : World} {ao : Option Addr} {c : Nat} {l : List StepV} (h : Sl w ao c 6 (stepR l)) : l.length ≤ c := by
  have := h.le
  rwa [stepR, List.length_map] at this
theorem step_pos (A : Addr) (j : Nat) (h : 0 < j) : A.add j = ⟨A.block, A.off + j, none⟩ := by unfold Addr.add; rw [if_neg (by omega)]
theorem step_acc {w : World} {ad : Addr} {c : Nat} {l : List StepV} (h : Sl w (some ad) c 6 (stepR l)) (i : Nat) (hi : i < l.length) : w.cell? ((ad.add (i * 6))) = some (.bool l[i].acc) := by
  have := step_at h i hi 0 _ rfl
  rwa [Go.Deep.add_add, Nat.add_zero] at this
theorem step_b {w : World} {ad : Addr} {c : Nat} {l : List StepV} (h : Sl w (some ad) c 6 (stepR l)) (i : Nat) (hi : i < l.length) : ∀ j v, (balC l[i].b).toList[j]? = some v → w.cell? ((⟨(ad.add (i * 6)).block, (ad.add (i * 6)).off + 1, none⟩ : Addr).add j) = some v := fun j v hj => by
  have hlt : j < 2 := (List.getElem?_eq_some_iff.1 hj).1
  have := step_at h i hi (j + 1) v (by match j, hj with | 0, hj => exact hj | 1, hj => exact hj)
  rw [step_pos _ _ (by omega)] at this
  rw [Addr.add_mid, Nat.add_assoc, Nat.add_comm 1 j]
  exact this
theorem step_x {w : World} {ad : Addr} {c : Nat} {l : List StepV} (h : Sl w (some ad) c 6 (stepR l)) (i : Nat) (hi : i < l.length) : ∀ j v, (incC l[i].x).toList[j]? = some v → w.cell? ((⟨(ad.add (i * 6)).block, (ad.add (i * 6)).off + 3, none⟩ : Addr).add j) = some v := fun j v hj => by
  have hlt : j < 3 := (List.getElem?_eq_some_iff.1 hj).1
  have := step_at h i hi (j + 3) v (by match j, hj with | 0, hj => exact hj | 1, hj => exact hj | 2, hj => exact hj)
  rw [step_pos _ _ (by omega)] at this
  rw [Addr.add_mid, Nat.add_assoc, Nat.add_comm 3 j]
  exact this
end Go.Proofs.Ytlcappkokdgpgaa
