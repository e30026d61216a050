/- JnlPlaysH, joined. -/
import Derived.Test.YtlalfagafbpkiaaGreatGrp41
namespace Go.Proofs.YtlalfagafbpkiaaGreat
section
set_option linter.unusedSimpArgs false
set_option linter.unusedVariables false
set_option maxRecDepth 100000
open Go.RowKit Go.MapKept

theorem power_face (j p kb mb n a : Nat) (lo : Option Addr) (lc : Nat) (l : List (List UInt8)) (N : Nat) (w : World) (H : JOk w j p kb mb n 0 lo lc l N) (ha : a ≤ 1000) :
    Calls Tryz.prog 11 #[.pointer (some ⟨p, 0, none⟩), .int .i64 (a : Nat)] w fun e w' => e = .returned (.tuple #[]) ∧ JOk w' j p kb mb n a lo lc l N ∧ But p w w' := by
  obtain ⟨D, h, H1, g, hN⟩ := H.ok
  refine (dpower_any p kb mb n a _ w H1.disk rfl ha).mono ?_
  rintro e w' ⟨rfl, hD, hb⟩
  refine ⟨rfl, ⟨D, h, H1.turn ((OffF.but hb).more (fun k hk => .inr (.inl hk))) hD (hb.has H1.jnl (fun z => H1.jF (.inl z))), g, hN⟩, hb⟩
theorem By.block_lt {w : World} {ao : Option Addr} {c : Nat} {xs : List UInt8} (h : By w ao c xs) (hne : xs ≠ []) : ∀ ad, ao = some ad → ad.block < w.heap.size := fun ad had => by
  cases xs with
  | nil => exact absurd rfl hne
  | cons x xs =>
    have := h.at' ad had 0 (B x) rfl
    have hb := World.block_lt_of_cell? w _ this
    unfold Addr.add at hb
    rw [if_pos rfl] at hb
    exact hb
theorem Strs.block_lt {w : World} {ao : Option Addr} {c : Nat} {xs : List (List UInt8)} (h : Strs w ao c xs) (hne : xs ≠ []) : ∀ ad, ao = some ad → ad.block < w.heap.size := fun ad had => by
  cases xs with
  | nil => exact absurd rfl hne
  | cons x xs =>
    have := h.cell ad had 0 (Nat.succ_pos _)
    have hb := World.block_lt_of_cell? w _ this
    unfold Addr.add at hb
    rw [if_pos rfl] at hb
    exact hb
theorem crash_ne (w0 : World) (p kb mb n : Nat) (Q : List UInt8 → Prop) (ao : Option Addr) (k c : Nat) (cs : List UInt8) (w : World) (hcut : DCut w p kb mb n Q) (hnew : ∀ k, DF p kb mb k → w0.heap.size ≤ k) (hbel : Below w0.heap.size w0 w) (hB : By w0 ao c cs) (hk : k = cs.length) :
    Calls Tryz.prog 8 #[.pointer (some ⟨p, 0, none⟩), .slice ao k c] w fun e w' => e = .returned (.tuple #[]) ∧ ∃ E, Q E ∧ DL w0 w' p kb mb n E ∧ OffF (DF p kb mb) w w' := by
  refine (crash_face_ne p kb mb n Q ao k c cs w hcut (hB.later hbel) hk (fun ad had hne => ⟨Nat.lt_of_lt_of_le (hB.block_lt hne ad had) hbel.size, fun hf => by have := hnew _ hf; have := hB.block_lt hne ad had; omega⟩)).mono ?_
  rintro e w' ⟨rfl, E, hE, hD, ho⟩
  exact ⟨rfl, E, hE, ⟨hD, hnew, hbel.trans (ho.below hnew hbel.size)⟩, ho⟩
theorem step_size (s : StepV) : (Tryz.prog.info? 33).map (·.size) = some (stepL s).toArray.size := by show _ = some 5; kernel_rfl
def step0 : StepV := ⟨0, [], none, 0, [], 0, none, 0, []⟩
theorem step_zero : (Tryz.prog.info? 33).map (·.zero) = some (some (.agg (stepL step0).toArray)) := by kernel_rfl
theorem step_one (s : StepV) : (stepL s).toArray.all (·.oneCell') = true := by simp [stepL, strV, Value.oneCell']
theorem step_at {w : World} {ad : Addr} {c : Nat} {l : List StepV} (h : Sl w (some ad) c 5 (l.map stepL)) (i : Nat) (hi : i < l.length) : ∀ j v, (stepL l[i])[j]? = some v → w.cell? ((ad.add (i * 5)).add j) = some v := by
  intro j v hj
  have hlt : j < 5 := (List.getElem?_eq_some_iff.1 hj).1
  have := h.at' ad rfl i (by rw [List.length_map]; exact hi) j hlt
  rw [Go.Deep.add_add, this, ← hj]
  simp
theorem Sl.later5 {w w' : World} {ao : Option Addr} {c sz : Nat} {rows : List (List Value)} (h : Sl w ao c sz rows) (hb : Below w.heap.size w w') : Sl w' ao c sz rows := h.later hb
end
end Go.Proofs.YtlalfagafbpkiaaGreat
