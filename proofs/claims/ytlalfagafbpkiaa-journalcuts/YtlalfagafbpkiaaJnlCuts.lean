/- JournalCuts's walk. -/
import Derived.Test.YtlalfagafbpkiaaGrp37
import Derived.Test.YtlalfagafbpkiaaGrp39
namespace Go.Proofs.Ytlalfagafbpkiaa
set_option linter.unusedSimpArgs false
set_option linter.unusedVariables false
set_option maxRecDepth 100000
open Go.RowKit Go.MapKept

theorem each_taken {l : List (List UInt8)} {k : Nat} (h : takenM l ≤ k) : ∀ r ∈ l, r.length ≤ k := fun r hr => by
  unfold takenM at h
  have : r.length + 16 ≤ (l.map (fun r => r.length + 16)).sum := by
    obtain ⟨a, b, rfl⟩ := List.append_of_mem hr
    simp
    omega
  omega
/-- A disk that was made behind w0 and was cut off. -/
structure CL (w0 w : World) (p kb mb n : Nat) (Q : List UInt8 → Prop) : Prop where
  cut : DCut w p kb mb n Q
  new : ∀ k, DF p kb mb k → w0.heap.size ≤ k
  below : Below w0.heap.size w0 w
/-- A disk that was made behind w0 and has so many steps left. -/
structure PL (w0 w : World) (p kb mb n a : Nat) (D : List UInt8) : Prop where
  disk : DiskAt w p kb mb n ⟨D, [], a, false⟩
  new : ∀ k, DF p kb mb k → w0.heap.size ≤ k
  below : Below w0.heap.size w0 w
theorem power_on (w0 : World) (p kb mb n a : Nat) (D : List UInt8) (w : World) (H : DL w0 w p kb mb n D) (ha : a ≤ 1000) :
    Calls Try.prog 19 #[.pointer (some ⟨p, 0, none⟩), .int .i64 (a : Nat)] w fun e w' => e = .returned (.tuple #[]) ∧ PL w0 w' p kb mb n a D := by
  refine (dpower_any p kb mb n a _ w H.disk rfl ha).mono ?_
  rintro e w' ⟨rfl, hD, hb⟩
  exact ⟨rfl, hD, H.new, H.below.trans ((OffF.but hb).below (fun k hk => by rw [hk]; exact H.new _ (.inl rfl)) H.below.size)⟩
theorem crash_cut (w0 : World) (p kb mb n : Nat) (Q : List UInt8 → Prop) (ao : Option Addr) (k c : Nat) (cs : List UInt8) (w : World) (H : CL w0 w p kb mb n Q) (hB : By w0 ao c cs) (hk : k = cs.length) (hlt : ∀ ad, ao = some ad → ad.block < w0.heap.size) :
    Calls Try.prog 13 #[.pointer (some ⟨p, 0, none⟩), .slice ao k c] w fun e w' => e = .returned (.tuple #[]) ∧ ∃ E, Q E ∧ DL w0 w' p kb mb n E := by
  refine (crash_face p kb mb n Q ao k c cs w H.cut (hB.later H.below) hk (fun ad had => ⟨Nat.lt_of_lt_of_le (hlt ad had) H.below.size, fun hf => by have := H.new _ hf; have := hlt ad had; omega⟩)).mono ?_
  rintro e w' ⟨rfl, E, hE, hD, ho⟩
  exact ⟨rfl, E, hE, hD, H.new, H.below.trans (ho.below H.new H.below.size)⟩
theorem JL.cl {w0 w w' : World} {j p kb mb n left N : Nat} {lo : Option Addr} {lc : Nat} {l : List (List UInt8)} {D : List UInt8} (H : PL w0 w p kb mb n left D) {left' : Nat} (h : JOk w' j p kb mb n left' lo lc l N) (ho : OffF (DF p kb mb) w w') : CL w0 w' p kb mb n (fun E => GoodL n E l N) :=
  ⟨h.cut, H.new, H.below.trans (ho.below H.new H.below.size)⟩
theorem format_cut (w0 : World) (p kb mb n a : Nat) (w : World) (H : PL w0 w p kb mb n a (zeroD n)) (hn : 8 ≤ n) :
    Calls Try.prog 11 #[.pointer (some ⟨p, 0, none⟩)] w fun e w' =>
      (∃ j, e = .returned (.tuple #[.pointer (some ⟨j, 0, none⟩), .int .i64 0]) ∧ CL w0 w' p kb mb n (fun E => GoodL n E [] 1)) ∨
      (e = .returned (.tuple #[.pointer none, .int .i64 131]) ∧ CL w0 w' p kb mb n (fun E => NoJnl n E ∨ GoodL n E [] 1)) := by
  refine (format_zero p kb mb n a w H.disk hn).mono ?_
  rintro e w' (⟨j, left', rfl, hj, hl, H', ho⟩ | ⟨rfl, _, hc, ho⟩)
  · exact .inl ⟨j, rfl, JL.cl H H' ho⟩
  · exact .inr ⟨rfl, hc, H.new, H.below.trans (ho.below H.new H.below.size)⟩
theorem format_cut_over (w0 : World) (p kb mb n a : Nat) (D : List UInt8) (l : List (List UInt8)) (N : Nat) (w : World) (H : PL w0 w p kb mb n a D) (hg : GoodL n D l N) (hN : N < 255) :
    Calls Try.prog 11 #[.pointer (some ⟨p, 0, none⟩)] w fun e w' =>
      (∃ j, e = .returned (.tuple #[.pointer (some ⟨j, 0, none⟩), .int .i64 0]) ∧ CL w0 w' p kb mb n (fun E => GoodL n E [] (N + 1))) ∨
      (e = .returned (.tuple #[.pointer none, .int .i64 131]) ∧ CL w0 w' p kb mb n (fun E => GoodL n E l N ∨ GoodL n E [] (N + 1))) := by
  refine (format_over p kb mb n a D l N w H.disk hg hN).mono ?_
  rintro e w' (⟨j, left', rfl, hj, hl, H', ho⟩ | ⟨rfl, _, hc, ho⟩)
  · exact .inl ⟨j, rfl, JL.cl H H' ho⟩
  · exact .inr ⟨rfl, hc, H.new, H.below.trans (ho.below H.new H.below.size)⟩
/-- Open of a disk, whatever it holds. -/
theorem open_cut (w0 : World) (p kb mb n : Nat) (D : List UInt8) (w : World) (H : DL w0 w p kb mb n D) (hg : NoJnl n D) :
    Calls Try.prog 14 #[.pointer (some ⟨p, 0, none⟩)] w fun e w' => e = .returned (.tuple #[.pointer none, .slice none 0 0, .int .i64 10]) ∧ Below w0.heap.size w0 w' := by
  refine (open_none_face p kb mb n 0 D w H.disk hg).mono ?_
  rintro e w' ⟨rfl, hb⟩
  exact ⟨rfl, H.below.trans (hb.mono H.below.size)⟩

set_option maxHeartbeats 32000000 in
theorem cuts_walk (ao co : Option Addr) (ac cc : Nat) (l : List (List UInt8)) (cs : List UInt8) (pw : Nat) (fresh : Bool) (w : World) (hpw : pw < 256) (hS : Strs w ao ac l) (hl47 : ∀ s ∈ l, s.length ≤ 140737488355328) (hla : ∀ ad, ao = some ad → ad.block < w.heap.size) (hC : By w co cc cs) (hca : ∀ ad, co = some ad → ad.block < w.heap.size) :
    Calls Try.prog 5 #[.slice ao l.length ac, .int .u8 (pw : Int), .slice co cs.length cc, .bool fresh] w fun e w' => e = .returned (.bool true) ∧ Below w.heap.size w w' := by
  obtain ⟨r, hr⟩ : ∃ r, pw % 12 = r := ⟨_, rfl⟩
  have hr1 : r < 12 := by omega
  replace hr : Hid _ := hr
  obtain ⟨m, hm⟩ : ∃ m, r + 1 = m := ⟨_, rfl⟩
  have hmI : (r : Int) + 1 = (m : Int) := by omega
  have hm1 : m ≤ 1000 := by omega
  have hle := hS.le
  have hcap := hS.cap
  have hle2 := hC.le
  have hcap2 := hC.cap
  go_enter Try.func5, Try.ntmps5
  go_wp2_with fail
  refine (known_any w).mono ?_
  rintro e w1 ⟨rfl, hB1⟩
  by_cases h1 : l.length ≤ 10
  case neg =>
    have h1I : (10 : Int) < (l.length : Int) := by omega
    go_wp2_with fail
    go_ret
    exact ⟨rfl, hB1⟩
  by_cases h2 : cs.length ≤ 100
  case neg =>
    have h1I : ¬ (10 : Int) < (l.length : Int) := by omega
    have h2I : (100 : Int) < (cs.length : Int) := by omega
    go_wp2_with fail
    go_ret
    exact ⟨rfl, hB1⟩
  have h1I : ¬ (10 : Int) < (l.length : Int) := by omega
  have h2I : ¬ (100 : Int) < (cs.length : Int) := by omega
  have hS1 := hS.later hB1
  have hwt := weight_any ao ac l w1 hS1 (by omega) hl47
  replace hwt : Hid _ := hwt
  go_wp2_with fail
  refine Calls.mono hwt.out ?_
  rintro e w2 ⟨rfl, h9⟩
  have h9' := h9.symm; subst h9'
  clear hwt h9
  by_cases h3 : takenM l ≤ 1000
  case neg =>
    have h3I : (1000 : Int) < (takenM l : Int) := by omega
    go_wp2_with fail
    go_ret
    exact ⟨rfl, hB1⟩
  have h3I : ¬ (1000 : Int) < (takenM l : Int) := by omega
  go_wp2_with fail
  refine (new_on w 60 w1 hB1 (by decide) (by decide)).mono ?_
  rintro e w2 ⟨p, kb, mb, rfl, H2, hq2, hF2⟩
  clear hq2 hF2 hB1 hS1 h1I h2I
  cases fresh with
  | true =>
    go_wp2_with (first | (refine wpList_val (.int .u8 (r : Int)) (by rfl) (run_rem_u8 _ _ _ _ rfl pw 12 r rfl rfl hpw (by decide) hr.out) ?_) | fail)
    refine (power_on w p kb mb 60 m (zeroD 60) w2 H2 hm1).mono ?_
    rintro e w5 ⟨rfl, H5⟩
    clear H2 hr
    go_wp2_with fail
    refine (format_cut w p kb mb 60 m w5 H5 (by decide)).mono ?_
    rintro e w6 (⟨j6, rfl, H6⟩ | ⟨rfl, H6⟩)
    · clear H5
      go_wp2_with fail
      refine (crash_cut w p kb mb 60 (fun E => GoodL 60 E [] 1) co cs.length cc cs w6 H6 hC rfl hca).mono ?_
      rintro e w7 ⟨rfl, E, hE, H7⟩
      clear H6
      go_wp2_with fail
      refine (open_on w p kb mb 60 E [] 1 w7 H7 hE).mono ?_
      rintro e w9 ⟨j9, lo9, lc9, bo, bc, rfl, H9, hF9, hS9, hb9, hq9⟩
      have hB9 : Below w.heap.size w w9 := H9.below
      clear hF9 hS9 hb9 hq9 H9 hE H7
      have hnil : ([] : List (List UInt8)).length = 0 := rfl
      rw [hnil]
      clear hnil
      go_wp2_with fail
      go_ret
      exact ⟨rfl, hB9⟩
    · clear H5
      go_wp2_with fail
      refine (crash_cut w p kb mb 60 (fun E => NoJnl 60 E ∨ GoodL 60 E [] 1) co cs.length cc cs w6 H6 hC rfl hca).mono ?_
      rintro e w7 ⟨rfl, E, hE, H7⟩
      clear H6
      go_wp2_with fail
      rcases hE with hE | hE
      · refine (open_cut w p kb mb 60 E w7 H7 hE).mono ?_
        rintro e w9 ⟨rfl, hB9⟩
        clear hE H7
        go_wp2_with fail
        go_ret
        exact ⟨rfl, hB9⟩
      · refine (open_on w p kb mb 60 E [] 1 w7 H7 hE).mono ?_
        rintro e w9 ⟨j9, lo9, lc9, bo, bc, rfl, H9, hF9, hS9, hb9, hq9⟩
        have hB9 : Below w.heap.size w w9 := H9.below
        clear hF9 hS9 hb9 hq9 H9 hE H7
        have hnil : ([] : List (List UInt8)).length = 0 := rfl
        rw [hnil]
        clear hnil
        go_wp2_with fail
        go_ret
        exact ⟨rfl, hB9⟩
  | false =>
    go_wp2_with fail
    refine (format_on w p kb mb 60 w2 H2 (by decide)).mono ?_
    rintro e w3 ⟨j, rfl, H3, hj, ho3⟩
    clear H2 hj ho3
    have hS3 : Strs w3 ao ac l := hS.later H3.below
    have hso3 : ∀ ad, ao = some ad → ad.block < w3.heap.size ∧ ¬ FJ j p kb mb none ad.block := fun ad had => ⟨Nat.lt_of_lt_of_le (hla ad had) H3.below.size, fun hf => by have := H3.new _ hf; have := hla ad had; omega⟩
    go_wp2_with fail
    refine (replace_on w j p kb mb 60 none 0 [] 1 ao ac l w3 H3 (by decide) hS3 hso3 (fun r hr => Nat.le_trans (each_taken h3 r hr) (by decide)) (by show _ ≤ 64 * (60 / 2 - 4); omega)).mono ?_
    rintro e w4 ⟨rfl, lo4, lc4, H4, hF4, ho4⟩
    obtain ⟨D, H4', hg⟩ := H4.disk
    clear H3 hS3 hso3 hF4 ho4 H4
    go_wp2_with (first | (refine wpList_val (.int .u8 (r : Int)) (by rfl) (run_rem_u8 _ _ _ _ rfl pw 12 r rfl rfl hpw (by decide) hr.out) ?_) | fail)
    refine (power_on w p kb mb 60 m D w4 H4' hm1).mono ?_
    rintro e w5 ⟨rfl, H5⟩
    clear H4' hr
    go_wp2_with fail
    refine (format_cut_over w p kb mb 60 m D l (1 + 1) w5 H5 hg (by decide)).mono ?_
    rintro e w6 (⟨j6, rfl, H6⟩ | ⟨rfl, H6⟩)
    · clear H5 hg
      go_wp2_with fail
      refine (crash_cut w p kb mb 60 (fun E => GoodL 60 E [] (1 + 1 + 1)) co cs.length cc cs w6 H6 hC rfl hca).mono ?_
      rintro e w7 ⟨rfl, E, hE, H7⟩
      clear H6
      go_wp2_with fail
      refine (open_on w p kb mb 60 E [] (1 + 1 + 1) w7 H7 hE).mono ?_
      rintro e w9 ⟨j9, lo9, lc9, bo, bc, rfl, H9, hF9, hS9, hb9, hq9⟩
      have hB9 : Below w.heap.size w w9 := H9.below
      clear hF9 hS9 hb9 hq9 H9 hE H7
      have hnil : ([] : List (List UInt8)).length = 0 := rfl
      rw [hnil]
      clear hnil
      go_wp2_with fail
      go_ret
      exact ⟨rfl, hB9⟩
    · clear H5 hg
      go_wp2_with fail
      refine (crash_cut w p kb mb 60 (fun E => GoodL 60 E l (1 + 1) ∨ GoodL 60 E [] (1 + 1 + 1)) co cs.length cc cs w6 H6 hC rfl hca).mono ?_
      rintro e w7 ⟨rfl, E, hE, H7⟩
      clear H6
      go_wp2_with fail
      rcases hE with hE | hE
      · refine (open_on w p kb mb 60 E l (1 + 1) w7 H7 hE).mono ?_
        rintro e w9 ⟨j9, lo9, lc9, bo, bc, rfl, H9, hF9, hS9, hb9, hq9⟩
        have hB9 : Below w.heap.size w w9 := H9.below
        have hS10 := hS9
        have htx := texts_any bo ao bc ac l l w9 hS9 (hS.later hB9)
        replace htx : Hid _ := htx
        have hbc := hS9.le
        have hbc2 := hS9.cap
        clear hF9 hS9 hb9 hq9 H9 hE H7 hS10
        by_cases h0 : l.length = 0
        · have h0I : (l.length : Int) = 0 := by omega
          rw [show l.length = 0 from h0] 
          clear htx h0I
          go_wp2_with fail
          go_ret
          exact ⟨rfl, hB9⟩
        have h0I : ¬ (l.length : Int) = 0 := by omega
        go_wp2_with fail
        refine Calls.mono htx.out ?_
        rintro e w10 ⟨rfl, hb10⟩
        simp only [decide_true]
        have hB10 : Below w.heap.size w w10 := hB9.trans (hb10.mono hB9.size)
        clear htx hb10
        go_wp2_with fail
        go_ret
        exact ⟨rfl, hB10⟩
      · refine (open_on w p kb mb 60 E [] (1 + 1 + 1) w7 H7 hE).mono ?_
        rintro e w9 ⟨j9, lo9, lc9, bo, bc, rfl, H9, hF9, hS9, hb9, hq9⟩
        have hB9 : Below w.heap.size w w9 := H9.below
        clear hF9 hS9 hb9 hq9 H9 hE H7
        have hnil : ([] : List (List UInt8)).length = 0 := rfl
        rw [hnil]
        clear hnil
        go_wp2_with fail
        go_ret
        exact ⟨rfl, hB9⟩
end Go.Proofs.Ytlalfagafbpkiaa
