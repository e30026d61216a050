/- JournalAgain's walk. -/
import Derived.Test.YtlalfagafbpkiaaGrp40
namespace Go.Proofs.Ytlalfagafbpkiaa
set_option linter.unusedSimpArgs false
set_option linter.unusedVariables false
set_option maxRecDepth 100000
open Go.RowKit Go.MapKept

set_option maxHeartbeats 32000000 in
theorem again_walk (ao co : Option Addr) (ac cc : Nat) (l : List (List UInt8)) (cs : List UInt8) (tm : Nat) (w : World) (htm : tm < 256) (hS : Strs w ao ac l) (hl47 : ∀ s ∈ l, s.length ≤ 140737488355328) (hla : ∀ ad, ao = some ad → ad.block < w.heap.size) (hC : By w co cc cs) (hca : ∀ ad, co = some ad → ad.block < w.heap.size) :
    Calls Try.prog 3 #[.slice ao l.length ac, .int .u8 (tm : Int), .slice co cs.length cc] w fun e w' => e = .returned (.bool true) ∧ Below w.heap.size w w' := by
  have hq : ∀ (ad : Addr) (w : World), (binOp .eql 28 (.pointer (some ad)) (.pointer none)).run Try.prog w = .ok (.bool false) w := fun ad w => by kernel_rfl
  obtain ⟨T, hT⟩ : ∃ T, tm % 6 = T := ⟨_, rfl⟩
  have hT1 : T < 6 := by omega
  replace hT : Hid _ := hT
  have hle := hS.le
  have hcap := hS.cap
  have hle2 := hC.le
  have hcap2 := hC.cap
  go_enter Try.func3, Try.ntmps3
  go_wp2_with fail
  refine (known_any w).mono ?_
  rintro e w1 ⟨rfl, hB1⟩
  by_cases h1 : l.length ≤ 10
  case neg =>
    have h1I : (10 : Int) < (l.length : Int) := by omega
    go_wp2_with fail
    go_ret
    exact ⟨rfl, hB1⟩
  have h1I : ¬ (10 : Int) < (l.length : Int) := by omega
  have hS1 := hS.later hB1
  have hwt := weight_any ao ac l w1 hS1 (by omega) hl47
  replace hwt : Hid _ := hwt
  go_wp2_with fail
  refine Calls.mono hwt.out ?_
  rintro e w2 ⟨rfl, h9⟩
  have h9' := h9.symm; subst h9'
  clear hwt h9
  by_cases h3 : takenM l ≤ 2000
  case neg =>
    have h3I : (2000 : Int) < (takenM l : Int) := by omega
    go_wp2_with fail
    go_ret
    exact ⟨rfl, hB1⟩
  have h3I : ¬ (2000 : Int) < (takenM l : Int) := by omega
  by_cases h2 : cs.length ≤ 50
  case neg =>
    have h2I : (50 : Int) < (cs.length : Int) := by omega
    go_wp2_with fail
    go_ret
    exact ⟨rfl, hB1⟩
  have h2I : ¬ (50 : Int) < (cs.length : Int) := by omega
  go_wp2_with fail
  refine (new_on w 100 w1 hB1 (by decide) (by decide)).mono ?_
  rintro e w2 ⟨p, kb, mb, rfl, H2, hq2, hF2⟩
  clear hq2 hF2 hB1 hS1 h1I h2I h3I
  go_wp2_with fail
  refine (format_on w p kb mb 100 w2 H2 (by decide)).mono ?_
  rintro e w3 ⟨j, rfl, H3, hj, ho3⟩
  clear H2 hj ho3
  have hS3 : Strs w3 ao ac l := hS.later H3.below
  have hso3 : ∀ ad, ao = some ad → ad.block < w3.heap.size ∧ ¬ FJ j p kb mb none ad.block := fun ad had => ⟨Nat.lt_of_lt_of_le (hla ad had) H3.below.size, fun hf => by have := H3.new _ hf; have := hla ad had; omega⟩
  go_wp2_with fail
  refine (replace_on w j p kb mb 100 none 0 [] 1 ao ac l w3 H3 (by decide) hS3 hso3 (fun r hr => Nat.le_trans (each_takenL h3 r hr) (by decide)) (by show _ ≤ 64 * (100 / 2 - 4); omega)).mono ?_
  rintro e w4 ⟨rfl, lo4, lc4, H4, hF4, ho4⟩
  replace H4 : JL w w4 j p kb mb 100 lo4 lc4 l 2 := H4
  clear H3 hS3 hso3 hF4 ho4
  go_wp2_with fail
  go_loopw [8, 10] (fun jv iv wr => ∃ (q j : Nat) (lo : Option Addr) (lc : Nat), q ≤ T ∧ iv = .int .i64 (q : Nat) ∧ jv = .pointer (some ⟨j, 0, none⟩) ∧ JL w wr j p kb mb 100 lo lc l 2) (fun _ iv _ => T - (intOf iv).toNat)
  case atStart => exact ⟨0, j, lo4, lc4, Nat.zero_le _, rfl, rfl, H4⟩
  case round =>
    obtain ⟨q, j', lo, lc, hq, rfl, rfl, H5⟩ := hrel
    clear H4
    by_cases hlt : q < T
    · have hltI : (q : Int) < (T : Int) := by omega
      go_wp2_with (first | (refine wpList_val (.int .u8 (T : Int)) (by rfl) (run_rem_u8 _ _ _ _ rfl tm 6 T rfl rfl htm (by decide) hT.out) ?_) | fail)
      refine (crash_in w j' p kb mb 100 lo lc l 2 co cs.length cc cs wr H5 hC rfl hca).mono ?_
      rintro e w6 ⟨rfl, D, H6, hg⟩
      clear H5
      go_wp2_with fail
      refine (open_on w p kb mb 100 D l 2 w6 H6 hg).mono ?_
      rintro e w9 ⟨j9, lo9, lc9, bo, bc, rfl, H9, hF9, hS9, hb9, hq9⟩
      have hB9 : Below w.heap.size w w9 := H9.below
      have htx := texts_any bo ao bc ac l l w9 hS9 (hS.later hB9)
      replace htx : Hid _ := htx
      have hbc := hS9.le
      have hbc2 := hS9.cap
      clear hF9 hS9 hb9 hq9 H6 hg
      go_wp2_with fail
      refine Calls.mono htx.out ?_
      rintro e w10 ⟨rfl, hb10⟩
      simp only [decide_true]
      have H10 := H9.later hb10
      clear htx hb10 H9
      go_wp2_with fail
      go_roundw
      case rel => exact ⟨q + 1, j9, lo9, lc9, by omega, by go_num, rfl, H10⟩
      case measure => simp [intOf]; omega
    · have hltI : ¬ (q : Int) < (T : Int) := by omega
      go_wp2_with (first | (refine wpList_val (.int .u8 (T : Int)) (by rfl) (run_rem_u8 _ _ _ _ rfl tm 6 T rfl rfl htm (by decide) hT.out) ?_) | fail)
      refine (append_on w j' p kb mb 100 lo lc l 2 [109, 111, 114, 101] wr H5 (by decide) (by decide) (by show _ + (4 + 16) ≤ 64 * (100 / 2 - 4); omega)).mono ?_
      rintro e w5 ⟨rfl, lo5, lc5, H6, hF6, ho6⟩
      clear H5 hF6 ho6
      go_wp2_with fail
      refine (crash_in w j' p kb mb 100 lo5 lc5 (l ++ [[109, 111, 114, 101]]) (2 + 1) co cs.length cc cs w5 H6 hC rfl hca).mono ?_
      rintro e w6 ⟨rfl, D, H7, hg⟩
      clear H6
      go_wp2_with fail
      refine (open_on w p kb mb 100 D (l ++ [[109, 111, 114, 101]]) (2 + 1) w6 H7 hg).mono ?_
      rintro e w9 ⟨j9, lo9, lc9, bo, bc, rfl, H9, hF9, hS9, hb9, hq9⟩
      have hB9 : Below w.heap.size w w9 := H9.below
      have hlen : (l ++ [[109, 111, 114, 101]]).length = l.length + 1 := by simp
      have hlex := hS9.le
      cases bo with
      | none => have h1 := hS9.nil rfl; omega
      | some ad =>
        have c1 := hS9.cell ad rfl l.length (by omega)
        have hlast : (l ++ [[109, 111, 114, 101]])[l.length]'(by omega) = [109, 111, 114, 101] := by simp
        rw [hlast] at c1
        have htx := texts_any (some ad) ao bc ac l l w9 hS9.initL (hS.later hB9)
        replace htx : Hid _ := htx
        have hbc2 := hS9.cap
        rw [hlen] at hlex
        obtain ⟨n, hn⟩ : ∃ n, l.length = n := ⟨_, rfl⟩
        rw [hlen]
        rw [hn] at htx c1 hlex ⊢
        clear hF9 hS9 hb9 hq9 H7 H9 hg hlen hlast
        go_wp2_with fail
        refine Calls.mono htx.out ?_
        rintro e w10 ⟨rfl, hb10⟩
        simp only [decide_true]
        have c2 : w10.cell? (ad.add n) = some (.string (mkS [109, 111, 114, 101])) := by
          rw [hb10.cell (World.block_lt_of_cell? w9 _ c1)]
          exact c1
        have k0 : (mkS [109, 111, 114, 101]).toList = [109, 111, 114, 101] := by unfold mkS; rw [ByteArray.toList_mk]
        have hB10 : Below w.heap.size w w10 := hB9.trans (hb10.mono hB9.size)
        clear htx hb10 c1
        go_wp2_with fail
        go_ret
        exact ⟨rfl, hB10⟩
end Go.Proofs.Ytlalfagafbpkiaa
