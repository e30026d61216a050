/- The contract of straw's step of a logarithm over this seat's program. -/
import Derived.Test.YtmfgmdglpeadbaaChecked
import Derived.Test.YtmfgmdglpeadbaaStrawMath
import Derived.WalkKit
import Derived.WalkSpells
import Derived.WalkLawsBesides
namespace Go.Proofs.Ytmfgmdglpeadbaa
open Go.RowKit
set_option linter.unusedVariables false

/-- Two cells of a block, that may be written. -/
structure Two (w : World) (g : Nat) (x t : Int) : Prop where
  c0 : w.cell? ⟨g, 0, none⟩ = some (.int .u64 x)
  c1 : w.cell? ⟨g, 1, none⟩ = some (.int .i64 t)
  f0 : w.frozen? ⟨g, 0, none⟩ = false
  f1 : w.frozen? ⟨g, 1, none⟩ = false

theorem Two.set0 {w : World} {g : Nat} {x t : Int} (h : Two w g x t) (y : Int) : Two (w.setCell ⟨g, 0, none⟩ (.int .u64 y)) g y t := by
  refine ⟨World.cell?_setCell_same _ _ _ h.c0, ?_, ?_, ?_⟩
  · rw [World.cell?_setCell_other _ _ _ _ (by simp)]; exact h.c1
  · rw [World.frozen?_setCell]; exact h.f0
  · rw [World.frozen?_setCell]; exact h.f1

theorem Two.set1 {w : World} {g : Nat} {x t : Int} (h : Two w g x t) (y : Int) : Two (w.setCell ⟨g, 1, none⟩ (.int .i64 y)) g x y := by
  refine ⟨?_, World.cell?_setCell_same _ _ _ h.c1, ?_, ?_⟩
  · rw [World.cell?_setCell_other _ _ _ _ (by simp)]; exact h.c0
  · rw [World.frozen?_setCell]; exact h.f0
  · rw [World.frozen?_setCell]; exact h.f1

theorem Two.drew {w : World} {g : Nat} {x t : Int} (h : Two w g x t) : Two w.drew g x t := ⟨h.c0, h.c1, h.f0, h.f1⟩

theorem sq_cast (x : Nat) : (x : Int) * x / 2147483648 = (sqN x : Int) := rfl

theorem or_one (t : Nat) (h : t < 65536) : bits .or .i64 ((t : Int) * 2) 1 = (t : Int) * 2 + 1 := by
  have h1 : (BitVec.ofInt 64 ((t : Int) * 2)).toNat = t * 2 := by
    have e : (t : Int) * 2 = ((t * 2 : Nat) : Int) := rfl
    rw [e, BitVec.ofInt_natCast, BitVec.toNat_ofNat]
    exact Nat.mod_eq_of_lt (by omega)
  have h2 : (BitVec.ofInt 64 (1 : Int)).toNat = 1 := rfl
  have h3 : t * 2 ||| 1 = t * 2 + 1 := by
    rw [show t * 2 = 2 ^ 1 * t by omega, ← Nat.two_pow_add_eq_or_of_lt (by omega : 1 < 2 ^ 1)]
  show IntKind.i64.wrap ((BitVec.ofInt 64 ((t : Int) * 2) ||| BitVec.ofInt 64 (1 : Int)).toNat : Int) = _
  rw [BitVec.toNat_or, h1, h2, h3, IntKind.wrap_i64]
  omega

set_option maxRecDepth 100000 in
set_option maxHeartbeats 1000000 in
theorem step_lo (base g x t q : Nat) (w : World) (hx : Norm x) (ht : t < 65536) (h : Two w g x t) (hg : base ≤ g) (hsq : Hid (sqN x = q)) (hqq : Hid ((q : Int) < 4294967296)) :
    Calls Try.prog 68 #[.pointer (some ⟨g, 0, none⟩)] w fun e w' => e = .returned (.tuple #[]) ∧ Two w' g q (t * 2) ∧ Below base w w' := by
  obtain ⟨hq1, hq2, hq3⟩ := sq_bd hx
  obtain ⟨hx1, hx2⟩ := hx
  rw [hsq.out] at hq1 hq2
  have c0 := h.c0
  have c1 := h.c1
  have f0 := h.f0
  have f1 := h.f1
  go_enter Try.func68, Try.ntmps68
  go_wp2
  go_region
  rw [sq_cast, hsq.out]
  have hb := (((Below.refl base w).setCell (p := ⟨g, 0, none⟩) hg (.int .u64 (q : Int))).drew)
  have h1 := (h.set0 (q : Int)).drew
  generalize hw1 : (w.setCell ⟨g, 0, none⟩ (.int .u64 (q : Int))).drew = w1 at *
  have d0 := h1.c0
  have d1 := h1.c1
  have e0 := h1.f0
  have e1 := h1.f1
  have k1 : (2147483648 : Int) ≤ (q : Int) := by omega
  have k3 : (t : Int) < 65536 := by omega
  have k2 : (q : Int) < 8589934592 := by omega
  clear c0 c1 f0 f1 hw1 hq1 hq2 hq3 hx1 hx2 ht h hsq
  have hq : ¬ (4294967296 : Int) ≤ (q : Int) := by have := hqq.out; omega
  go_wp2
  go_end0
  exact ⟨rfl, h1.set1 _, hb.setCell hg _⟩

set_option maxRecDepth 100000 in
set_option maxHeartbeats 1000000 in
theorem step_hi (base g x t : Nat) (w : World) (hx : Norm x) (ht : t < 65536) (h : Two w g x t) (hg : base ≤ g) (hq : (4294967296 : Int) ≤ (sqN x : Int)) :
    Calls Try.prog 68 #[.pointer (some ⟨g, 0, none⟩)] w fun e w' => e = .returned (.tuple #[]) ∧ Two w' g ((sqN x : Int) / 2) ((t : Int) * 2 + 1) ∧ Below base w w' := by
  obtain ⟨hq1, hq2, hq3⟩ := sq_bd hx
  obtain ⟨hx1, hx2⟩ := hx
  have ho := or_one t ht
  have c0 := h.c0
  have c1 := h.c1
  have f0 := h.f0
  have f1 := h.f1
  go_enter Try.func68, Try.ntmps68
  go_wp2
  go_region
  rw [sq_cast]
  have hb := (((Below.refl base w).setCell (p := ⟨g, 0, none⟩) hg (.int .u64 (sqN x : Int))).drew)
  have h1 := (h.set0 (sqN x : Int)).drew
  generalize hw1 : (w.setCell ⟨g, 0, none⟩ (.int .u64 (sqN x : Int))).drew = w1 at *
  have d0 := h1.c0
  have d1 := h1.c1
  have e0 := h1.f0
  have e1 := h1.f1
  have k1 : (2147483648 : Int) ≤ (sqN x : Int) := by omega
  have k2 : (sqN x : Int) < 8589934592 := by omega
  have k3 : (t : Int) < 65536 := by omega
  clear c0 c1 f0 f1 hw1 hq1 hq2 hq3 hx1 hx2 ht h
  go_wp2
  go_end0
  exact ⟨rfl, ((h1.set1 _).set0 _).set1 _, ((hb.setCell hg _).setCell hg _).setCell hg _⟩

theorem step_any (base g x t : Nat) (w : World) (hx : Norm x) (ht : t < 65536) (h : Two w g x t) (hg : base ≤ g) :
    Calls Try.prog 68 #[.pointer (some ⟨g, 0, none⟩)] w fun e w' => e = .returned (.tuple #[]) ∧ Two w' g (nxtN x : Nat) (2 * t + bitN x : Nat) ∧ Below base w w' := by
  by_cases hq : 4294967296 ≤ sqN x
  · refine (step_hi base g x t w hx ht h hg (by omega)).mono ?_
    rintro e w' ⟨rfl, h', hb⟩
    refine ⟨rfl, ?_, hb⟩
    have e1 : (nxtN x : Int) = (sqN x : Int) / 2 := by unfold nxtN; rw [if_pos hq]; rfl
    have e2 : ((2 * t + bitN x : Nat) : Int) = (t : Int) * 2 + 1 := by unfold bitN; rw [if_pos hq]; omega
    rw [e1, e2]
    exact h'
  · refine (step_lo base g x t (sqN x) w hx ht h hg rfl (show _ < _ by omega)).mono ?_
    rintro e w' ⟨rfl, h', hb⟩
    refine ⟨rfl, ?_, hb⟩
    have e1 : (nxtN x : Int) = (sqN x : Int) := by unfold nxtN; rw [if_neg hq]
    have e2 : ((2 * t + bitN x : Nat) : Int) = (t : Int) * 2 := by unfold bitN; rw [if_neg hq]; omega
    rw [e1, e2]
    exact h'
end Go.Proofs.Ytmfgmdglpeadbaa
