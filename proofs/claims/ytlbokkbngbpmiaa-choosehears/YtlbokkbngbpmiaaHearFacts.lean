/- Two daemons of a group lose their weight: reckoned for the first map's groups. -/
import Derived.Test.YtlbokkbngbpmiaaFewFacts9
import Derived.KernelRfl
namespace Go.Proofs.Ytlbokkbngbpmiaa
set_option linter.unusedSimpArgs false
set_option linter.unusedVariables false

/-- The daemons below n that aren't in a list. -/
def othL (A : List Int) : Nat → List Int
  | 0 => []
  | n + 1 => othL A n ++ (if (A.any fun x => x == (n : Int)) = true then [] else [(n : Int)])
theorem othL_yes {A : List Int} {n : Nat} (h : (A.any fun x => x == (n : Int)) = true) : othL A (n + 1) = othL A n := by
  show othL A n ++ _ = _
  rw [if_pos h, List.append_nil]
theorem othL_no {A : List Int} {n : Nat} (h : (A.any fun x => x == (n : Int)) = false) : othL A (n + 1) = othL A n ++ [(n : Int)] := by
  show othL A n ++ _ = _
  rw [if_neg (by rw [h]; simp)]
theorem othL_len (A : List Int) (n : Nat) : (othL A n).length ≤ n := by
  induction n with
  | zero => exact Nat.le_refl _
  | succ n ih =>
    show (othL A n ++ _).length ≤ _
    rw [List.length_append]
    split <;> simp <;> omega
def incW (o : Nat) : IncV := ⟨3, o, 0⟩
def hearB (r : Nat) (A : List Int) (x y : Nat) : Bool :=
  okA (mapH [] 0) (incW x) && okA (mapH [incW x] 1) (incW y) && (ivals [incW x, incW y] r).dropLast.any (lackB (othL A 5) 0) && (ivals [incW x, incW y] r).dropLast.any (lackB (othL A 5) 1) && decide (x < 5) && decide (y < 5) && (A.length == 3)
def hearAll : Bool := (List.range 4).all fun r => (List.range 3).all fun k => (List.range 3).all fun j => k == j || hearB r (nowH [] r) ((nowH [] r).getD k 0).toNat ((nowH [] r).getD j 0).toNat
theorem hear_all : hearAll = true := by kernel_rfl
structure HearFacts (r x y : Nat) (A : List Int) : Prop where
  add2 : addH [] 2 (incW x) = (0, [incW x])
  add3 : addH [incW x] 3 (incW y) = (0, [incW x, incW y])
  any0 : (ivals [incW x, incW y] r).dropLast.any (lackB (othL A 5) 0) = true
  any1 : (ivals [incW x, incW y] r).dropLast.any (lackB (othL A 5) 1) = true
theorem hear_is {r k j x y : Nat} (hr : r < 4) (hk : k < 3) (hj : j < 3) (hx : (nowH [] r).getD k 0 = (x : Int)) (hy : (nowH [] r).getD j 0 = (y : Int)) (hne : x ≠ y) : HearFacts r x y (nowH [] r) := by
  have h := hear_all
  unfold hearAll at h
  rw [List.all_eq_true] at h
  have h := h r (List.mem_range.2 hr)
  rw [List.all_eq_true] at h
  have h := h k (List.mem_range.2 hk)
  rw [List.all_eq_true] at h
  have h := h j (List.mem_range.2 hj)
  have hkj : k ≠ j := fun e => by subst e; rw [hx] at hy; omega
  rw [hx, hy, Bool.or_eq_true, beq_iff_eq] at h
  rcases h with h | h
  · exact absurd h hkj
  · unfold hearB at h
    simp only [Bool.and_eq_true, Int.toNat_natCast] at h
    obtain ⟨⟨⟨⟨⟨⟨h1, h2⟩, h3⟩, h4⟩, _⟩, _⟩, _⟩ := h
    exact ⟨addH_yes rfl h1, addH_yes rfl h2, h3, h4⟩
theorem now_first (g : Nat) (hg : g < 4) : (nowH [] g).length = 3 := Ups.nil.now hg
theorem now_mem (xs : List IncV) (g : Nat) : ∀ x ∈ nowH xs g, 0 ≤ x ∧ x < 5 := by rw [now_is]; exact (actM_mem _ g).1
theorem lacks_pos {V : List (Nat × List Int)} {hs : List Int} {s : Nat} (h : V.dropLast.any (lackB hs s) = true) : 0 < (lacksM V hs s).length := by
  obtain ⟨v, hv, hb⟩ := List.any_eq_true.1 h
  exact List.length_pos_of_mem (List.mem_filter.2 ⟨hv, hb⟩)
end Go.Proofs.Ytlbokkbngbpmiaa
