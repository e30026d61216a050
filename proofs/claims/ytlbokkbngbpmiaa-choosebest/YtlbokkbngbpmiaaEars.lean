/- The contracts of choose's listened, hears, misses, serves. -/
import Derived.Test.YtlbokkbngbpmiaaChooseMath
import Derived.Test.YtlbokkbngbpmiaaIvRow
import Derived.Test.YtlbokkbngbpmiaaPackTools
import Derived.Test.YtlbokkbngbpmiaaChecked
namespace Go.Proofs.Ytlbokkbngbpmiaa
set_option linter.unusedSimpArgs false
set_option linter.unusedVariables false
set_option maxRecDepth 100000
open Go.RowKit

def earsC (hs : List Int) (s : Nat) : Array Value := #[.bool (hrd hs 0), .bool (hrd hs 1), .bool (hrd hs 2), .bool (hrd hs 3), .bool (hrd hs 4), .int .u32 (s : Int)]
theorem ears_size (hs : List Int) (s : Nat) : (Try.prog.info? 94).map (·.size) = some (earsC hs s).size := by show _ = some 6; kernel_rfl
theorem ears_zero : (Try.prog.info? 94).map (·.zero) = some (some (.agg (earsC [] 0))) := by kernel_rfl
theorem ears_built (s : Nat) : Try.prog.built 94 [(1, .int .u32 (s : Int))] = some (earsC [] s) := by kernel_rfl
theorem ears_one (hs : List Int) (s : Nat) : (earsC hs s).all (·.oneCell') = true := by simp [earsC, Value.oneCell']
theorem ears_set (hs : List Int) (s : Nat) (x : Int) (h0 : 0 ≤ x) (h5 : x < 5) : (earsC hs s).setIfInBounds x.toNat (.bool true) = earsC (hs ++ [x]) s := by
  have : x = 0 ∨ x = 1 ∨ x = 2 ∨ x = 3 ∨ x = 4 := by omega
  rcases this with rfl | rfl | rfl | rfl | rfl <;> simp [earsC, hrd_snoc]
theorem ears_skip (hs : List Int) (s : Nat) (x : Int) (h : ¬ (0 ≤ x ∧ x < 5)) : earsC (hs ++ [x]) s = earsC hs s := by
  unfold earsC
  rw [hrd_snoc, hrd_snoc, hrd_snoc, hrd_snoc, hrd_snoc, decide_eq_false (show ¬ (0 : Int) = x by omega), decide_eq_false (show ¬ (1 : Int) = x by omega), decide_eq_false (show ¬ (2 : Int) = x by omega), decide_eq_false (show ¬ (3 : Int) = x by omega), decide_eq_false (show ¬ (4 : Int) = x by omega)]
  simp
theorem ears_at (hs : List Int) (s : Nat) (x : Int) (h0 : 0 ≤ x) (h5 : x < 5) : (earsC hs s)[x.toNat]? = some (.bool (hrd hs x)) := by
  have : x = 0 ∨ x = 1 ∨ x = 2 ∨ x = 3 ∨ x = 4 := by omega
  rcases this with rfl | rfl | rfl | rfl | rfl <;> rfl
theorem ears_last (hs : List Int) (s : Nat) : (earsC hs s)[5]? = some (.int .u32 (s : Int)) := rfl

set_option maxHeartbeats 1000000 in
theorem hears_any (hs : List Int) (s : Nat) (x : Int) (w : World) (h0 : 0 ≤ x) (h5 : x < 5) :
    Calls Try.prog 62 #[.agg (earsC hs s), .int .i64 x] w fun en w' => en = .returned (.bool (hrd hs x)) ∧ Below w.heap.size w w' := by
  obtain ⟨k, rfl⟩ : ∃ k : Nat, x = (k : Int) := ⟨x.toNat, by omega⟩
  have hk5 : k < 5 := by omega
  have ce := ears_at hs s k h0 h5
  rw [Int.toNat_natCast] at ce
  have hb := (Below.refl w.heap.size w).alloc (Nat.le_refl _) (.cells (earsC hs s) 94)
  go_enter Try.func62, Try.ntmps62
  go_wp2
  go_ret
  exact ⟨rfl, hb⟩

set_option maxHeartbeats 1000000 in
theorem misses_any (hs : List Int) (s : Nat) (x : Int) (w : World) (h0 : 0 ≤ x) (h5 : x < 5) :
    Calls Try.prog 45 #[.agg (earsC hs s), .int .i64 x] w fun en w' => en = .returned (.bool (!hrd hs x)) ∧ Below w.heap.size w w' := by
  obtain ⟨k, rfl⟩ : ∃ k : Nat, x = (k : Int) := ⟨x.toNat, by omega⟩
  have hk5 : k < 5 := by omega
  have ce := ears_at hs s k h0 h5
  rw [Int.toNat_natCast] at ce
  have hb := (Below.refl w.heap.size w).alloc (Nat.le_refl _) (.cells (earsC hs s) 94)
  go_enter Try.func45, Try.ntmps45
  go_wp2
  go_ret
  exact ⟨rfl, hb⟩

def ivA (v : IvE) : Array Value := #[.int .u32 (v.s : Int), .slice v.ao v.l.length v.c]
theorem ivA_size (v : IvE) : (Try.prog.info? 38).map (·.size) = some (ivA v).size := by show _ = some 2; kernel_rfl
theorem ivA_zero : (Try.prog.info? 38).map (·.zero) = some (some (.agg (ivA ⟨0, none, 0, []⟩))) := by kernel_rfl

set_option maxHeartbeats 1000000 in
theorem serves_any (v : IvE) (w : World) (hl : v.l.length ≤ 1000000) :
    Calls Try.prog 46 #[.agg (ivA v)] w fun en w' => en = .returned (.bool (decide (2 ≤ v.l.length))) ∧ Below w.heap.size w w' := by
  have ce : (ivA v)[1]? = some (.slice v.ao v.l.length v.c) := rfl
  have hd : decide (2 ≤ v.l.length) = decide ((2 : Int) ≤ (v.l.length : Int)) := decide_eq_decide.2 (by omega)
  rw [hd]
  clear hd
  have hb := (Below.refl w.heap.size w).alloc (Nat.le_refl _) (.cells (ivA v) 38)
  go_enter Try.func46, Try.ntmps46
  go_wp2
  all_goals
    go_ret
    exact ⟨rfl, hb⟩

set_option maxHeartbeats 4000000 in
theorem listened_any (ao : Option Addr) (c : Nat) (xs : List Int) (s : Nat) (w : World) (hx : Ix w ao c xs) (hl : xs.length ≤ 1000000) :
    Calls Try.prog 39 #[.slice ao xs.length c, .int .u32 (s : Int)] w fun en w' => en = .returned (.agg (earsC xs s)) ∧ Below w.heap.size w w' := by
  have hcap := hx.cap
  have hle := hx.le
  obtain ⟨w1, hw1⟩ : ∃ W, w.alloc (.cells (earsC [] 0) 94) = W := ⟨_, rfl⟩
  have hs1 : w1.heap.size = w.heap.size + 1 := by rw [← hw1]; simp
  have hR1 : Has w1 w.heap.size 94 (earsC [] 0) := hw1 ▸ Has.new _ _ _
  obtain ⟨w2, hw2⟩ : ∃ W, (w1.alloc (.cells (earsC [] 0) 94)).setRow w1.heap.size (earsC [] s) = W := ⟨_, rfl⟩
  have hX2 : Has w2 (w.heap.size + 1) 94 (earsC [] s) := by rw [← hs1, ← hw2]; exact (Has.new _ _ _).row _
  have hR2 : Has w2 w.heap.size 94 (earsC [] 0) := by rw [← hw2]; exact (hR1.alloc _).row_other (by omega) _
  have hb1 : Below w.heap.size w w1 := hw1 ▸ (Below.refl _ _).alloc (Nat.le_refl _) _
  have hb2 : Below w.heap.size w w2 := hw2 ▸ below_setRow (hb1.alloc (by omega) _) (by omega) _
  go_enter Try.func39, Try.ntmps39
  go_wp2_with (first
    | (refine wpList_alloc_has (by rfl) 94 rfl (earsC [] 0) ears_zero ?_; first | rw [hw1] | skip)
    | (refine wpList_build_has (by rfl) 94 _ rfl (earsC [] s) (ears_built s) ?_)
    | (refine wpList_store_has (by rfl) 94 _ _ rfl w1.heap.size rfl (earsC [] s) rfl 94 (earsC [] 0) (ears_size _ _) rfl (ears_one _ _) ?hg ?_; (case hg => exact Has.new _ _ _); rw [hw2]))
  go_loopw [12] (fun i wr => ∃ n : Nat, n ≤ xs.length ∧ i = .int .i64 n ∧ Has wr (w.heap.size + 1) 94 (earsC (xs.take n) s) ∧ Has wr w.heap.size 94 (earsC [] 0) ∧ Below w.heap.size w wr) (fun i _ => xs.length - (intOf i).toNat)
  case atStart => exact ⟨0, Nat.zero_le _, rfl, hX2, hR2, hb2⟩
  case round =>
    clear hX2 hR2 hb2 hb1 hw2 hw1 hR1 hs1
    obtain ⟨n, hn, rfl, hX, hR, hb⟩ := hrel
    by_cases hlt : n < xs.length
    · have hnI : (n : Int) < (xs.length : Int) := by omega
      cases ao with
      | none => have h1 := hx.nil rfl; omega
      | some ad =>
        have cx := (hx.later hb).at' ad rfl n hlt
        have htk : Hid (xs.take (n + 1) = xs.take n ++ [xs[n]]) := List.take_succ_eq_append_getElem hlt
        have hbd : Hid (True) := trivial
        generalize xs[n] = x at *
        generalize xs.take n = hs at *
        by_cases hin : 0 ≤ x ∧ x < 5
        · obtain ⟨h0, h5⟩ := hin
          have hset := ears_set hs s x h0 h5
          have hX1 := hX.set x.toNat (.bool true)
          rw [hset, ← htk.out] at hX1
          have hR1 := hR.set_other (a := ⟨w.heap.size + 1, x.toNat, none⟩) (by show w.heap.size ≠ w.heap.size + 1; omega) (.bool true)
          have hb1 : Below w.heap.size w (wr.setCell ⟨w.heap.size + 1, x.toNat, none⟩ (.bool true)) := hb.setCell (by show w.heap.size ≤ w.heap.size + 1; omega) _
          obtain ⟨k, rfl⟩ : ∃ k : Nat, x = (k : Int) := ⟨x.toNat, by omega⟩
          rw [Int.toNat_natCast] at hX1 hR1 hb1
          have ce := hX.cell k
          have ck := ears_at hs s k h0 h5
          rw [Int.toNat_natCast] at ck
          rw [ck] at ce
          have cf := hX.free k
          clear hset ck
          go_wp2
          go_roundw
          case rel => exact ⟨n + 1, by omega, by go_num, hX1, hR1, hb1⟩
          case measure => simp [intOf]; omega
        · have hskip := ears_skip hs s x hin
          rw [← htk.out] at hskip
          rw [← hskip] at hX
          clear hskip
          by_cases h0 : 0 ≤ x
          · have h5 : ¬ x < 5 := fun h => hin ⟨h0, h⟩
            clear hin
            go_wp2
            go_roundw
            case rel => exact ⟨n + 1, by omega, by go_num, hX, hR, hb⟩
            case measure => simp [intOf]; omega
          · clear hin
            go_wp2
            go_roundw
            case rel => exact ⟨n + 1, by omega, by go_num, hX, hR, hb⟩
            case measure => simp [intOf]; omega
    · have e : n = xs.length := by omega
      subst e
      rw [List.take_length] at hX
      have hRr := hR.row (earsC xs s)
      go_wp2_with (first
        | (refine wpList_load_has (by rfl) 94 _ rfl (w.heap.size + 1) rfl 94 (earsC xs s) _ Try.underlying94 rfl (ears_size _ _) ?hg ?_; (case hg => exact hX))
        | (refine wpList_store_has (by rfl) 94 _ _ rfl w.heap.size rfl (earsC xs s) rfl 94 (earsC [] 0) (ears_size _ _) rfl (ears_one _ _) ?hg ?_; (case hg => exact hR)))
      refine ret_has rfl w.heap.size rfl 94 (earsC xs s) _ Try.underlying94 rfl (ears_size _ _) hRr rfl ⟨rfl, below_setRow hb (Nat.le_refl _) _⟩
end Go.Proofs.Ytlbokkbngbpmiaa
