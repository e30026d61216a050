/- Rows of steps that came in: an epoch's increment, as it stands or as the next one. -/
import Derived.Test.YtmfgmdglpeadbaaPackMaps
import Derived.Test.YtmfgmdglpeadbaaIvRow
namespace Go.Proofs.Ytmfgmdglpeadbaa
set_option linter.unusedSimpArgs false
set_option linter.unusedVariables false
set_option maxRecDepth 100000
open Go.ChangeShapes Go.WideShapes Go.ChangeAt Go.RowKit

structure StepV where
  next : Bool
  ep : Nat
  x : IncV

def stepL (s : StepV) : List Value := .bool s.next :: .int .u32 (s.ep : Int) :: (incC s.x).toList
def stepR (l : List StepV) : List (List Value) := l.map stepL
def StepOk (s : StepV) : Prop := s.ep < 4294967296 ∧ IncOk s.x

theorem stepR_len (l : List StepV) : (stepR l).length = l.length := by unfold stepR; rw [List.length_map]
theorem cells_step : Try.prog.cellsOf 34 = 5 := by kernel_rfl

theorem list5 {α : Type} (l : List α) (h : l.length = 5) : ∃ a b c d e, l = [a, b, c, d, e] := by
  match l, h with
  | [a, b, c, d, e], _ => exact ⟨a, b, c, d, e, rfl⟩

section
variable {H : Type} {enc : TypeId × Value → H} {W : World} {base : Nat} {spare : Nat → Bool} {held : Bool} {fuel : Nat} {y : DataW H × List MemPlace}

theorem reads_step {cs : List Value} (h : DataW.trod enc Try.prog W base spare held fuel 34 cs = some y) : ∃ s : StepV, cs = stepL s ∧ StepOk s := by
  obtain ⟨xs, n, _, _, hl, hxl, hf⟩ := DataW.trod_struct Try.underlying34 h
  rw [cells_step] at hl
  have hxl : xs.length = 3 := hxl
  obtain ⟨c0, c1, c2, c3, c4, rfl⟩ := list5 cs hl
  have h0 : DataW.trod enc Try.prog W base spare held n 4 (([c0, c1, c2, c3, c4].drop 0).take (Try.prog.cellsOf 4)) = xs[0]? := hf 0 _ rfl
  have h1 : DataW.trod enc Try.prog W base spare held n 23 (([c0, c1, c2, c3, c4].drop 1).take (Try.prog.cellsOf 23)) = xs[1]? := hf 1 _ rfl
  have h2 : DataW.trod enc Try.prog W base spare held n 32 (([c0, c1, c2, c3, c4].drop 2).take (Try.prog.cellsOf 32)) = xs[2]? := hf 2 _ rfl
  rw [cells_bool] at h0
  rw [cells_u32] at h1
  rw [cells_inc] at h2
  obtain ⟨y0, e0⟩ := some_of h0 (by omega)
  obtain ⟨y1, e1⟩ := some_of h1 (by omega)
  obtain ⟨y2, e2⟩ := some_of h2 (by omega)
  obtain ⟨x0, q0, _⟩ := DataW.trod_bool Try.underlying4 e0
  obtain ⟨x1, q1, _, w1⟩ := DataW.trod_int Try.underlying23 e1
  obtain ⟨x2, q2, hk⟩ := reads_inc e2
  simp at q0 q1
  have q2 : [c2, c3, c4] = (incC x2).toList := q2
  subst q0 q1
  have b1 := bounds_u32 w1
  obtain ⟨k, rfl⟩ := Int.eq_ofNat_of_zero_le b1.1
  exact ⟨⟨x0, k, x2⟩, by unfold stepL; rw [← q2]; rfl, ⟨show k < 4294967296 by omega, hk⟩⟩
end

theorem open_steps {H : Type} {enc : TypeId × Value → H} {W : World} {base : Nat} {v : Value} {d : DataW H} {p : List MemPlace} (ok : Value.okWide Try.prog W .any base 22 v) (h : DataW.Trod enc Try.prog W 0 (fun _ => true) true 22 v d p) :
    ∃ ao c l, v = .slice ao l.length c ∧ Sl W ao c 5 (stepR l) ∧ ∀ s ∈ l, StepOk s :=
  open_rows stepL StepOk 5 Try.underlying22 cells_step (fun _ _ _ h => reads_step h) (fun _ => rfl) ok h

theorem fld_more (ad : Addr) (n k : Nat) : ad.add (n + (k + 1)) = ⟨(ad.add n).block, (ad.add n).off + (k + 1), none⟩ := by
  unfold Addr.add
  by_cases h : n = 0
  · subst h; simp
  · simp [h, Nat.add_assoc]

theorem step_at {w : World} {ad : Addr} {c : Nat} {l : List StepV} (h : Sl w (some ad) c 5 (stepR l)) (i : Nat) (hi : i < l.length) :
    w.cell? (ad.add (i * 5)) = some (.bool l[i].next) ∧ w.cell? ⟨(ad.add (i * 5)).block, (ad.add (i * 5)).off + 1, none⟩ = some (.int .u32 (l[i].ep : Int)) ∧
    ∀ j v, (incC l[i].x).toList[j]? = some v → w.cell? ((⟨(ad.add (i * 5)).block, (ad.add (i * 5)).off + 2, none⟩ : Addr).add j) = some v := by
  have hr : ∀ j, j < 5 → w.cell? (ad.add (i * 5 + j)) = (stepL l[i])[j]? := fun j hj => by
    have h0 := h.at' ad rfl i (by rw [stepR_len]; exact hi) j hj
    unfold stepR at h0
    rw [List.getElem_map] at h0
    exact h0
  refine ⟨(hr 0 (by decide)).trans rfl, ?_, fun j v hj => ?_⟩
  · rw [← fld_more ad (i * 5) 0]
    exact (hr 1 (by decide)).trans rfl
  · have hj3 : j < 3 := (List.getElem?_eq_some_iff.1 hj).1
    rw [← fld_more ad (i * 5) 1, Go.Deep.add_add]
    have := hr (2 + j) (by omega)
    rw [show i * 5 + (2 + j) = i * 5 + (1 + 1) + j by omega] at this
    rw [this, ← hj]
    unfold stepL
    rw [show 2 + j = j + 1 + 1 by omega, List.getElem?_cons_succ, List.getElem?_cons_succ]
end Go.Proofs.Ytmfgmdglpeadbaa
