/- A daemon of a group goes down and comes up: reckoned for the first map's groups. -/
import Derived.Test.YtmfgmdglpeadbaaHistKnown
namespace Go.Proofs.Ytmfgmdglpeadbaa
set_option linter.unusedSimpArgs false
set_option linter.unusedVariables false

def downO (r k : Nat) : Nat := ((actM firstM r).getD k 0).toNat
def incD (o : Nat) : IncV := ⟨2, o, 0⟩
def incU (o : Nat) : IncV := ⟨1, o, 0⟩

def downB (r o k : Nat) (A : List Int) : Bool :=
  okA (mapH [] 0) (incD o) && okA (mapH [incD o] 1) incN && okA (mapH [incD o, incN] 2) (incU o) && (sinceH [incD o] r == 2) && ((nowH [incD o] r).length == 2) && (sinceH [incD o, incN] r == 2)
    && ((ivals [incD o, incN, incU o] r).map (fun p => p.1) == [1, 2, 4]) && (((ivals [incD o, incN, incU o] r).getD 2 (0, [])).2 == A) && (nowH [incD o, incN, incU o] r == A) && (A.length == 3) && decide (o < 5) && (A.getD k 0 == (o : Int)) && (nowH [] r == A)

theorem down_00 : downB 0 (downO 0 0) 0 (actM firstM 0) = true := by kernel_rfl
theorem down_01 : downB 0 (downO 0 1) 1 (actM firstM 0) = true := by kernel_rfl
theorem down_02 : downB 0 (downO 0 2) 2 (actM firstM 0) = true := by kernel_rfl
theorem down_10 : downB 1 (downO 1 0) 0 (actM firstM 1) = true := by kernel_rfl
theorem down_11 : downB 1 (downO 1 1) 1 (actM firstM 1) = true := by kernel_rfl
theorem down_12 : downB 1 (downO 1 2) 2 (actM firstM 1) = true := by kernel_rfl
theorem down_20 : downB 2 (downO 2 0) 0 (actM firstM 2) = true := by kernel_rfl
theorem down_21 : downB 2 (downO 2 1) 1 (actM firstM 2) = true := by kernel_rfl
theorem down_22 : downB 2 (downO 2 2) 2 (actM firstM 2) = true := by kernel_rfl
theorem down_30 : downB 3 (downO 3 0) 0 (actM firstM 3) = true := by kernel_rfl
theorem down_31 : downB 3 (downO 3 1) 1 (actM firstM 3) = true := by kernel_rfl
theorem down_32 : downB 3 (downO 3 2) 2 (actM firstM 3) = true := by kernel_rfl

theorem down_all {r k : Nat} (hr : r < 4) (hk : k < 3) : ∃ o, downB r o k (actM firstM r) = true := by
  refine ⟨downO r k, ?_⟩
  match r, hr, k, hk with
  | 0, _, 0, _ => exact down_00
  | 0, _, 1, _ => exact down_01
  | 0, _, 2, _ => exact down_02
  | 1, _, 0, _ => exact down_10
  | 1, _, 1, _ => exact down_11
  | 1, _, 2, _ => exact down_12
  | 2, _, 0, _ => exact down_20
  | 2, _, 1, _ => exact down_21
  | 2, _, 2, _ => exact down_22
  | 3, _, 0, _ => exact down_30
  | 3, _, 1, _ => exact down_31
  | 3, _, 2, _ => exact down_32

structure DownFacts (r o k : Nat) (A : List Int) : Prop where
  add2 : addH [] 2 (incD o) = (0, [incD o])
  add3 : addH [incD o] 3 incN = (0, [incD o, incN])
  add4 : addH [incD o, incN] 4 (incU o) = (0, [incD o, incN, incU o])
  since1 : sinceH [incD o] r = 2
  now1 : (nowH [incD o] r).length = 2
  since2 : sinceH [incD o, incN] r = 2
  iv : ∃ a b, ivals [incD o, incN, incU o] r = [(1, a), (2, b), (4, A)]
  now3 : nowH [incD o, incN, incU o] r = A
  now0 : nowH [] r = A
  len : A.length = 3
  lt : o < 5
  at' : A.getD k 0 = (o : Int)

theorem three_of {l : List (Nat × List Int)} {A : List Int} (h : l.map (fun p => p.1) = [1, 2, 4]) (h2 : (l.getD 2 (0, [])).2 = A) : ∃ a b, l = [(1, a), (2, b), (4, A)] := by
  match l, h, h2 with
  | [(x, a), (y, b), (z, c)], h, h2 =>
    simp at h h2
    obtain ⟨rfl, rfl, rfl⟩ := h
    subst h2
    exact ⟨a, b, rfl⟩

theorem down_is {r k : Nat} (hr : r < 4) (hk : k < 3) : ∃ o, DownFacts r o k (actM firstM r) := by
  obtain ⟨o, h⟩ := down_all hr hk
  refine ⟨o, ?_⟩
  unfold downB at h
  simp only [Bool.and_eq_true, beq_iff_eq, decide_eq_true_eq] at h
  obtain ⟨⟨⟨⟨⟨⟨⟨⟨⟨⟨⟨⟨h1, h2⟩, h3⟩, h4⟩, h5⟩, h6⟩, h7⟩, h8⟩, h9⟩, h10⟩, h11⟩, h12⟩, h13⟩ := h
  exact ⟨addH_yes rfl h1, addH_yes rfl h2, addH_yes rfl h3, h4, h5, h6, three_of h7 h8, h9, h13, h10, h11, h12⟩
end Go.Proofs.Ytmfgmdglpeadbaa
