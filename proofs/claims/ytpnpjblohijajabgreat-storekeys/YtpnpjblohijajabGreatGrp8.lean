/- JnlSmall, joined. -/
import Derived.Test.YtpnpjblohijajabGreatGrp7
import Derived.Test.YtpnpjblohijajabGreatPackObj
namespace Go.Proofs.YtpnpjblohijajabGreat
section
set_option linter.unusedSimpArgs false
set_option linter.unusedVariables false
set_option maxRecDepth 100000
open Go.RowKit Go.MapKept

/-- What is thrown. -/
def thrownJ (n : Nat) : Ending := .panicked [{ v := .iface 25 (.int .i64 (n : Int)), recovered := false }]
theorem must_yes (k : Nat) (w : World) : Calls Tryz.prog 33 #[.bool true, .int .i64 (k : Nat)] w fun e w' => e = .returned (.tuple #[]) ∧ w' = w := by
  go_enter Tryz.func33, Tryz.ntmps33
  go_wp2
  go_end0
  exact ⟨rfl, rfl⟩
theorem must_no (k : Nat) (w : World) : Calls Tryz.prog 33 #[.bool false, .int .i64 (k : Nat)] w fun e w' => e = thrownJ k ∧ w' = w := by
  unfold thrownJ
  go_enter Tryz.func33, Tryz.ntmps33
  go_wp2
  exact ⟨rfl, rfl, rfl⟩
theorem jread_off (p kb mb n i : Nat) (d : DskV) (w : World) (h : DiskAt w p kb mb n d) (ho : d.off = true) :
    Calls Tryz.prog 56 #[.pointer (some ⟨p, 0, none⟩), .int .i64 (i : Nat)] w fun e w' => e = thrownJ 131 ∧ w' = w := by
  have hc := dread_off p kb mb n i d w h ho
  replace hc : Hid _ := hc
  clear h
  unfold thrownJ
  go_enter Tryz.func56, Tryz.ntmps56
  go_wp2_with fail
  refine Calls.mono hc.out ?_
  rintro e w1 ⟨rfl, rfl⟩
  clear hc
  go_wp2_with (go_at_call 33; refine (must_no 131 _).mono ?_; rintro e w1 ⟨rfl, rfl⟩; unfold thrownJ)
  exact ⟨rfl, rfl, rfl⟩
theorem jread_on (p kb mb n i : Nat) (d : DskV) (w : World) (h : DiskAt w p kb mb n d) (ho : d.off = false) (hi : i < n) :
    Calls Tryz.prog 56 #[.pointer (some ⟨p, 0, none⟩), .int .i64 (i : Nat)] w fun e w' => ∃ g, w.heap.size ≤ g ∧ e = .returned (.slice (some ⟨g, 0, none⟩) 64 64) ∧ Has w' g 5 (Bs (writtenM d i)).toArray ∧ Below w.heap.size w w' := by
  have hc := dread_on p kb mb n i d w h ho hi
  replace hc : Hid _ := hc
  clear h
  go_enter Tryz.func56, Tryz.ntmps56
  go_wp2_with fail
  refine Calls.mono hc.out ?_
  rintro e w1 ⟨g, hg, rfl, hG, hb⟩
  clear hc
  replace hG : Hid _ := hG
  go_wp2_with (go_at_call 33; refine (must_yes 0 _).mono ?_; rintro e w1 ⟨rfl, rfl⟩)
  go_ret
  exact ⟨g, hg, rfl, hG.out, hb⟩
theorem jwrite_off (p kb mb n i : Nat) (ao : Option Addr) (k c : Nat) (d : DskV) (w : World) (h : DiskAt w p kb mb n d) (ho : (stepM d).off = true) :
    Calls Tryz.prog 63 #[.pointer (some ⟨p, 0, none⟩), .int .i64 (i : Nat), .slice ao k c] w fun e w' => e = thrownJ 131 ∧ DiskAt w' p kb mb n (stepM d) ∧ But p w w' := by
  have hc := dwrite_off p kb mb n i ao k c d w h ho
  replace hc : Hid _ := hc
  clear h
  unfold thrownJ
  go_enter Tryz.func63, Tryz.ntmps63
  go_wp2_with fail
  refine Calls.mono hc.out ?_
  rintro e w1 ⟨rfl, h1, hb⟩
  clear hc
  go_wp2_with (go_at_call 33; refine (must_no 131 _).mono ?_; rintro e w1 ⟨rfl, rfl⟩; unfold thrownJ)
  exact ⟨rfl, rfl, h1, hb⟩
theorem jwrite_on (p kb mb n i : Nat) (ao : Option Addr) (k c : Nat) (xs : List UInt8) (d : DskV) (w : World) (h : DiskAt w p kb mb n d) (ho : (stepM d).off = false) (hi : i < n) (hB : By w ao c xs) (hk : k = xs.length) (hk64 : k ≤ 64) (hnp : ∀ ad, ao = some ad → ad.block ≠ p) (hlt : ∀ ad, ao = some ad → ad.block < w.heap.size) (hf : findP d.pend i = none) :
    Calls Tryz.prog 63 #[.pointer (some ⟨p, 0, none⟩), .int .i64 (i : Nat), .slice ao k c] w fun e w' => e = .returned (.tuple #[]) ∧ DiskAt w' p kb mb n ⟨d.dat, d.pend ++ [(i, overB (sec d.dat i) 0 xs)], (stepM d).left, false⟩ ∧ OffF (DF p kb mb) w w' := by
  have hc := dwrite_on p kb mb n i ao k c xs d w h ho hi hB hk hk64 hnp hlt hf
  replace hc : Hid _ := hc
  clear h hB hk hk64 hnp hlt
  go_enter Tryz.func63, Tryz.ntmps63
  go_wp2_with fail
  refine Calls.mono hc.out ?_
  rintro e w1 ⟨rfl, h1, hb⟩
  clear hc
  go_wp2_with (go_at_call 33; refine (must_yes 0 _).mono ?_; rintro e w1 ⟨rfl, rfl⟩)
  go_end0
  exact ⟨rfl, h1, hb⟩
theorem jflush_off (p kb mb n : Nat) (d : DskV) (w : World) (h : DiskAt w p kb mb n d) (ho : (stepM d).off = true) :
    Calls Tryz.prog 62 #[.pointer (some ⟨p, 0, none⟩)] w fun e w' => e = thrownJ 131 ∧ DiskAt w' p kb mb n (stepM d) ∧ But p w w' := by
  have hc := dflush_off p kb mb n d w h ho
  replace hc : Hid _ := hc
  clear h
  unfold thrownJ
  go_enter Tryz.func62, Tryz.ntmps62
  go_wp2_with fail
  refine Calls.mono hc.out ?_
  rintro e w1 ⟨rfl, h1, hb⟩
  clear hc
  go_wp2_with (go_at_call 33; refine (must_no 131 _).mono ?_; rintro e w1 ⟨rfl, rfl⟩; unfold thrownJ)
  exact ⟨rfl, rfl, h1, hb⟩
theorem jflush_on (p kb mb n : Nat) (d : DskV) (w : World) (h : DiskAt w p kb mb n d) (ho : (stepM d).off = false) :
    Calls Tryz.prog 62 #[.pointer (some ⟨p, 0, none⟩)] w fun e w' => e = .returned (.tuple #[]) ∧ ∃ E, Full n d.dat d.pend E ∧ DiskAt w' p kb mb n ⟨E, [], (stepM d).left, false⟩ ∧ OffF (DF p kb mb) w w' := by
  have hc := dflush_on p kb mb n d w h ho
  replace hc : Hid _ := hc
  clear h
  go_enter Tryz.func62, Tryz.ntmps62
  go_wp2_with fail
  refine Calls.mono hc.out ?_
  rintro e w1 ⟨rfl, E, hF, h1, hb⟩
  clear hc
  replace hF : Hid _ := hF
  go_wp2_with (go_at_call 33; refine (must_yes 0 _).mono ?_; rintro e w1 ⟨rfl, rfl⟩)
  go_end0
  exact ⟨rfl, E, hF.out, h1, hb⟩
theorem firstOf_any (p kb mb n half : Nat) (d : DskV) (w : World) (h : DiskAt w p kb mb n d) (hn : 8 ≤ n) (hh : half ≤ 1) :
    Calls Tryz.prog 90 #[.pointer (some ⟨p, 0, none⟩), .int .i64 (half : Nat)] w fun e w' => e = .returned (.int .i64 (firstM n half : Nat)) ∧ w' = w := by
  have hn1 := h.n1
  have hc := dlen_any p kb mb n d w h
  replace hc : Hid _ := hc
  have e1 : Int.tdiv (n : Int) 2 = ((n / 2 : Nat) : Int) := by rw [Int.tdiv_eq_ediv_of_nonneg (by omega)]; omega
  have e2 : Hid ((2 : Int) + (half : Int) * (((n / 2 : Nat) : Int) - 1) = (firstM n half : Nat)) := by
    show _ = _
    unfold firstM
    have : half = 0 ∨ half = 1 := by omega
    rcases this with rfl | rfl <;> omega
  obtain ⟨m, hm⟩ : ∃ m, n / 2 = m := ⟨_, rfl⟩
  rw [hm] at e1 e2
  have hmb : m ≤ 500 ∧ 4 ≤ m := by omega
  obtain ⟨f, hf⟩ : ∃ f, firstM n half = f := ⟨_, rfl⟩
  rw [hf] at e2 ⊢
  clear h hm hf
  have hhc : half = 0 ∨ half = 1 := by omega
  rcases hhc with rfl | rfl
  · go_enter Tryz.func90, Tryz.ntmps90
    go_wp2_with fail
    refine Calls.mono hc.out ?_
    rintro e w1 ⟨rfl, rfl⟩
    clear hc
    go_wp2
    go_ret
    refine ⟨?_, rfl⟩
    rw [← e2.out]
    simp
  · go_enter Tryz.func90, Tryz.ntmps90
    go_wp2_with fail
    refine Calls.mono hc.out ?_
    rintro e w1 ⟨rfl, rfl⟩
    clear hc
    have w1' : IntKind.i64.wrap ((m : Int) - 1) = (m : Int) - 1 := by rw [IntKind.wrap_i64]; omega
    have w2' : IntKind.i64.wrap (2 + ((m : Int) - 1)) = 2 + ((m : Int) - 1) := by rw [IntKind.wrap_i64]; omega
    go_wp2
    go_ret
    refine ⟨?_, rfl⟩
    rw [← e2.out]
    simp
theorem limit_any (p kb mb n : Nat) (d : DskV) (w : World) (h : DiskAt w p kb mb n d) (hn : 8 ≤ n) :
    Calls Tryz.prog 69 #[.pointer (some ⟨p, 0, none⟩)] w fun e w' => e = .returned (.int .i64 (limitM n : Nat)) ∧ w' = w := by
  have hn1 := h.n1
  have hc := dlen_any p kb mb n d w h
  replace hc : Hid _ := hc
  have e1 : Int.tdiv (n : Int) 2 = ((n / 2 : Nat) : Int) := by rw [Int.tdiv_eq_ediv_of_nonneg (by omega)]; omega
  have e2 : Hid ((64 : Int) * (((n / 2 : Nat) : Int) - 4) = (limitM n : Nat)) := by
    show _ = _
    unfold limitM
    omega
  obtain ⟨m, hm⟩ : ∃ m, n / 2 = m := ⟨_, rfl⟩
  rw [hm] at e1 e2
  have hmb : m ≤ 500 ∧ 4 ≤ m := by omega
  obtain ⟨f, hf⟩ : ∃ f, limitM n = f := ⟨_, rfl⟩
  rw [hf] at e2 ⊢
  clear h hm hf
  go_enter Tryz.func69, Tryz.ntmps69
  go_wp2_with fail
  refine Calls.mono hc.out ?_
  rintro e w1 ⟨rfl, rfl⟩
  clear hc
  have w1' : IntKind.i64.wrap ((m : Int) - 4) = (m : Int) - 4 := by rw [IntKind.wrap_i64]; omega
  have w2' : IntKind.i64.wrap (64 * ((m : Int) - 4)) = 64 * ((m : Int) - 4) := by rw [IntKind.wrap_i64]; omega
  go_wp2
  go_ret
  refine ⟨?_, rfl⟩
  rw [← e2.out]
  try rfl
theorem isRecord_any (s : List UInt8) (w : World) : Calls Tryz.prog 67 #[strV s] w fun e w' => e = .returned (.bool (decide (s.length ≤ 20000))) ∧ w' = w := by
  have hz := mkS_size s
  unfold strV
  obtain ⟨n, hn⟩ : ∃ n, (mkS s).size = n := ⟨_, rfl⟩
  have hD : Hid (decide (s.length ≤ 20000) = decide ((n : Int) ≤ 20000)) := by
    show _ = _
    rw [← hn, hz]
    exact decide_eq_decide.2 (by omega)
  rw [hD.out]
  clear hz
  go_enter Tryz.func67, Tryz.ntmps67
  go_wp2
  go_ret
  exact ⟨rfl, rfl⟩
/-! Headers in memory. -/
def hdC (h : HdV) : Array Value := #[.int .u64 (h.num : Int), .int .i64 (h.half : Int), .int .i64 (h.len : Int), .int .u64 (h.sum : Int)]
theorem hd_size (h : HdV) : (Tryz.prog.info? 73).map (·.size) = some (hdC h).size := by show _ = some 4; kernel_rfl
theorem hd_zero : (Tryz.prog.info? 73).map (·.zero) = some (some (.agg (hdC hd0))) := by kernel_rfl
theorem hd_one (h : HdV) : (hdC h).all (·.oneCell') = true := by
  unfold hdC
  simp [Value.oneCell']
theorem hd_same (a b : HdV) : (hdC a).size = (hdC b).size := rfl
end
end Go.Proofs.YtpnpjblohijajabGreat
