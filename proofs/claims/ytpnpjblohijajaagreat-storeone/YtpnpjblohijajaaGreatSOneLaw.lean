/- StoreOne's walk. -/
import Derived.Test.YtpnpjblohijajaaGreatGrp48
namespace Go.Proofs.YtpnpjblohijajaaGreat
set_option linter.unusedSimpArgs false
set_option linter.unusedVariables false
set_option maxRecDepth 100000
open Go.RowKit Go.MapKept

def oneW (xs : List UInt8) (k : Nat) : WrV := ⟨[107], xs ++ [UInt8.ofNat k], false⟩
def oneT (xs : List UInt8) (k : Nat) : List WrV := (List.range k).map (oneW xs)
def oneL (xs : List UInt8) (k : Nat) : ConL := [([107], xs ++ [UInt8.ofNat k])]
theorem one_snoc (xs : List UInt8) (k : Nat) : oneT xs (k + 1) = oneT xs k ++ [oneW xs k] := by unfold oneT; rw [List.range_succ, List.map_append]; rfl
theorem one_len (xs : List UInt8) (k : Nat) : (oneT xs k).length = k := by unfold oneT; simp
theorem one_at (xs : List UInt8) (k M : Nat) (h : M < (oneT xs k).length) : (oneT xs k)[M] = oneW xs M := by simp only [oneT, List.getElem_map, List.getElem_range]
theorem one_do (xs : List UInt8) : ∀ k, doL [] (oneT xs (k + 1)) = oneL xs k
  | 0 => by simp [oneT, oneW, oneL, doL, do1, putK, delK, insK, bytesBefore, List.range_succ]
  | k + 1 => by
    rw [one_snoc, doL_app, one_do xs k]
    simp [oneW, oneL, doL, do1, putK, delK, insK]
theorem one_is (xs : List UInt8) (k : Nat) (h : xs.length ≤ 400) (hk : k < 20) : IsTx (oneT xs (k + 1)) := by
  refine ⟨by rw [one_len]; omega, by rw [one_len]; omega, fun x hx => ?_⟩
  unfold oneT at hx
  obtain ⟨i, _, rfl⟩ := List.mem_map.1 hx
  exact ⟨by simp [oneW], by simp [oneW], by simp [oneW]; omega, fun h => by cases h⟩
theorem one_fits (xs : List UInt8) (k : Nat) (h : xs.length ≤ 400) : FitsL (16 * 40) (oneL xs k) := ⟨by simp [oneL], by simp [oneL, sizeL]; omega⟩
theorem wrs_off {F : Nat → Prop} {w w' : World} {ao : Option Addr} {c : Nat} {l : List WrV} (h : Wrs w ao c l) (hq : OffF F w w') (hf : ∀ ad, ao = some ad → ad.block < w.heap.size ∧ ¬ F ad.block) : Wrs w' ao c l := by
  refine ⟨h.le, h.cap, h.nil, h.each, fun ad had i hi j hj => ?_⟩
  have h1 := h.at' ad had i hi j hj
  have h2 : (ad.add (i * 3 + j)).block = ad.block := by unfold Addr.add; split <;> rfl
  have h3 := hq.block ad.block (hf ad had).1 (hf ad had).2
  unfold World.cell? at h1 ⊢
  rw [h2] at h1 ⊢
  rw [h3]
  exact h1
set_option maxHeartbeats 8000000 in
theorem sone_walk (n : Nat) (ao : Option Addr) (c : Nat) (xs : List UInt8) (w : World) (hn : n < 256) (hB : By w ao c xs) :
    Calls Tryz.prog 8 #[.int .u8 (n : Int), .slice ao xs.length c] w fun e w' => e = .returned (.bool true) ∧ Below w.heap.size w w' := by
  obtain ⟨L, hL⟩ : ∃ L, xs.length = L := ⟨_, rfl⟩
  rw [hL]
  have hle := hB.le
  have hcap := hB.cap
  rw [hL] at hle
  have hL' : Hid (xs.length = L) := hL
  clear hL
  by_cases hlen : 400 < L
  · have hI : (400 : Int) < (L : Int) := by omega
    go_enter Tryz.func8, Tryz.ntmps8
    go_wp2_with fail
    refine (knownS_any w).mono ?_
    rintro e w1 ⟨rfl, hq1⟩
    go_wp2
    go_ret
    exact ⟨rfl, hq1⟩
  · have hI : ¬ (400 : Int) < (L : Int) := by omega
    obtain ⟨M, hM⟩ : ∃ M, n % 20 = M := ⟨_, rfl⟩
    have hM1 : M < 20 := by omega
    have e1 : Int.tmod (n : Int) 20 = (M : Int) := by rw [Int.tmod_eq_emod_of_nonneg (by omega)]; omega
    have e2 : IntKind.u8.wrap (M : Int) = (M : Int) := by simp [IntKind.wrap, IntKind.bits, IntKind.signed]; omega
    have hxl : Hid (xs.length ≤ 400) := by show _ ≤ _; have := hL'.out; omega
    clear hM
    go_enter Tryz.func8, Tryz.ntmps8
    go_wp2_with fail
    refine (knownS_any w).mono ?_
    rintro e w1 ⟨rfl, hq1⟩
    go_wp2_with fail
    refine (new_on w 40 w1 hq1 (by decide) (by decide)).mono ?_
    rintro e w2 ⟨p, kb, mb, rfl, H2, hq2, hF2⟩
    go_wp2_with fail
    refine (smake_sl w p kb mb 40 w2 H2 (by decide)).mono ?_
    rintro e w3 ⟨s, F, rfl, H3, hF3, ho3⟩
    clear H2 hq2 hF2 hF3 ho3 hq1
    go_wp2
    go_loopw [8, 9] (fun tv iv wr => ∃ k v, k ≤ M + 1 ∧ iv = .int .i64 (k : Nat) ∧ tv = v ∧ Hid (wr.ownsRow w3.heap.size 41 3 v k (wrF (oneT xs k))) ∧ Below w3.heap.size w3 wr) (fun _ iv _ => M + 1 - (intOf iv).toNat)
    case atStart => exact ⟨0, _, Nat.zero_le _, rfl, rfl, own_nilWr _ _, Below.refl _ _⟩
    case round =>
      obtain ⟨k, v, hk, rfl, hv, hown, hb⟩ := hrel
      obtain rfl := hv.symm
      by_cases hlt : k ≤ M
      · have hltI : (k : Int) ≤ (M : Int) := by omega
        have e3 : IntKind.u8.wrap (k : Int) = (k : Int) := by simp [IntKind.wrap, IntKind.bits, IntKind.signed]; omega
        have hBr := hB.later (H3.below.trans (hb.mono H3.below.size))
        have hsn := one_snoc xs k
        have hol := one_len xs k
        obtain ⟨m, hm⟩ : ∃ m, oneT xs k = m := ⟨_, rfl⟩
        rw [hm] at hown hsn hol
        replace hsn : Hid _ := hsn
        replace hol : Hid _ := hol
        have hsw := hb.size
        clear hm
        go_wp2_with (first
          | (refine wpList_sliceB1 (by rfl) _ rfl k (by omega) rfl ?_; intro w5 hB5 hq5 hs5)
          | (refine wpList_convS (by rfl) _ rfl (some ⟨wr.heap.size, 0, none⟩) 1 1 [UInt8.ofNat k] rfl hB5 rfl ?_)
          | (refine wpList_convS (by rfl) _ rfl ao L c xs rfl hBr hL'.out.symm ?_)
          | (refine wpList_catS (by rfl) _ _ rfl xs [UInt8.ofNat k] ?hl rfl rfl ?_; (case hl => have := hxl.out; simp; omega))
          | (refine build_wr2 [107] (xs ++ [UInt8.ofNat k]) (by rfl) _ _ rfl rfl rfl ?_)
          | (refine wpList_slice_wrs1 (by rfl) _ rfl (oneW xs k) rfl ?_; intro w6 hW6 hq6 hs6; have hown6 : Hid (w6.ownsRow w3.heap.size 41 3 v m.length (wrF m)) := (by rw [hol.out]; exact wrs_keptW (wrs_keptW hown.out hq5) hq6); have hb6 := (hb.trans (hq5.mono hb.size)).trans (hq6.mono (hb.trans (hq5.mono hb.size)).size); have hsw6 := hb6.size)
          | (refine wpList_appendWr (by rfl) _ _ rfl w3.heap.size v m [oneW xs k] rfl hown6.out (some ⟨w5.heap.size, 0, none⟩) 1 1 rfl rfl hW6 ?hl hsw6 ?_; (case hl => rw [hol.out]; simp; omega); intro v' w7 hown7 hq7 hkp7)
          | fail)
        have hown8 : Hid (w7.ownsRow w3.heap.size 41 3 v' (k + 1) (wrF (oneT xs (k + 1)))) := by
          rw [hsn.out]
          have := hown7
          rw [List.length_append, hol.out] at this
          exact this
        have hb8 := hb6.trans hq7
        clear hown7 hq7 hkp7 hown6 hb6 hW6 hq6 hB5 hq5 hs5 hs6 hBr hown hsn hol hsw hsw6 hb
        go_roundw
        case rel => exact ⟨k + 1, v', by omega, by go_num, rfl, hown8, hb8⟩
        case measure => simp [intOf]; omega
      · have hkM : k = M + 1 := by omega
        have hltI : ¬ (k : Int) ≤ (M : Int) := by omega
        have hkM' : Hid (k = M + 1) := hkM
        obtain ⟨hkk, to, tc, rfl, hW, hlt2⟩ := wrs_own hown.out
        clear hkk
        have hln := one_len xs k
        rw [hln]
        have hFl := H3.ok.lt
        have H4 := H3.later hb
        have hdo : doL [] (oneT xs k) = oneL xs M := by rw [hkM]; exact one_do xs M
        replace hln : Hid _ := hln
        replace hdo : Hid _ := hdo
        replace hlt2 : Hid _ := hlt2
        replace hFl : Hid _ := hFl
        have hisT : Hid (IsTx (oneT xs k)) := by show IsTx _; rw [hkM]; exact one_is xs M hxl.out hM1
        clear hown hk hlt hkM
        go_wp2_with fail
        refine (sdo_sl w s p kb mb 40 F [] 1 to tc k (oneT xs k) wr H4 (by decide) hW hln.out.symm (fun ad had => (hlt2.out ad had).2) hisT.out (by rw [hdo.out]; exact one_fits xs M hxl.out)).mono ?_
        rintro e w5 ⟨rfl, F5, H5, hF5, ho5⟩
        rw [hdo.out] at H5
        have hW5 : Wrs w5 to tc (oneT xs k) := wrs_off hW ho5 (fun ad had => ⟨(hlt2.out ad had).2, fun z => by have := hFl.out _ z; have := (hlt2.out ad had).1; omega⟩)
        have hto5 : ∀ ad, to = some ad → ad.block < w5.heap.size ∧ ¬ F5 ad.block := fun ad had => by
          have h1 := hlt2.out ad had
          refine ⟨Nat.lt_of_lt_of_le h1.2 ho5.size, fun z => ?_⟩
          rcases hF5 _ z with z | z
          · have := hFl.out _ z; omega
          · omega
        clear H4 hW ho5 hF5 hlt2 H3 hFl hb
        go_wp2_with (first
          | (refine wpList_sliceB3 (by rfl) _ _ _ rfl 255 1 0 (by decide) (by decide) (by decide) rfl rfl rfl ?_; intro w6 hB6 hq6 hs6)
          | fail)
        have H6 := H5.later hq6
        have hnF : ¬ F5 w5.heap.size := fun z => by have := H5.ok.lt _ z; omega
        have hW6 := hW5.later hq6
        have hdk := H6.ok.disk
        refine (scrash_sl w s p kb mb 40 F5 (oneL xs M) (1 + 1) (some ⟨w5.heap.size, 0, none⟩) 3 3 [UInt8.ofNat 255, UInt8.ofNat 1, UInt8.ofNat 0] w6 H6 hB6 rfl (fun ad had _ => by cases had; exact ⟨hs6, hnF⟩)).mono ?_
        rintro e w7 ⟨rfl, H7, ho7⟩
        have hW7 : Wrs w7 to tc (oneT xs k) := wrs_off hW6 ho7 (fun ad had => ⟨Nat.lt_of_lt_of_le (hto5 ad had).1 hq6.size, fun z => (hto5 ad had).2 (hdk _ z)⟩)
        clear H5 H6 hB6 hq6 hs6 ho7 hnF hW5 hW6 hto5 hdk
        go_wp2_with fail
        refine (sopen_sl w p kb mb 40 (oneL xs M) (1 + 1) w7 H7).mono ?_
        rintro e w8 ⟨s8, F8, rfl, H8, hF8, hq8⟩
        have hW8 := hW7.later hq8
        clear H7 hF8 hq8 hW7
        have hg1 := sget_st s8 p kb mb 40 0 F8 (oneL xs M) (1 + 1) [107] w8 H8.ok (by decide)
        have a1 : (getK (oneL xs M) [107]).getD [] = xs ++ [UInt8.ofNat M] := by simp [oneL, getK]
        have a2 : (getK (oneL xs M) [107]).isSome = true := by simp [oneL, getK]
        rw [a1, a2] at hg1
        unfold strV at hg1
        replace hg1 : Hid _ := hg1
        clear a1 a2
        go_wp2_with fail
        refine Calls.mono hg1.out ?_
        rintro e w9 ⟨rfl, hq9⟩
        have H9 := H8.later hq9
        have hW9 := hW8.later hq9
        cases to with
        | none => have := hW9.nil rfl; have := wrs_le hW9; rw [hln.out] at this; have := hkM'.out; omega
        | some td =>
          have htc := wrs_le hW9
          have htc2 := hW9.cap
          rw [hln.out] at htc
          have hMk : M < (oneT xs k).length := by rw [hln.out, hkM'.out]; omega
          have ht1 := one_at xs k M hMk
          have hcc := wr_at hW9 M hMk
          rw [ht1] at hcc
          have c1 := hcc 1 (strV (xs ++ [UInt8.ofNat M])) rfl
          have c2 : w9.cell? ⟨(td.add (M * 3)).block, (td.add (M * 3)).off + 1, none⟩ = some (.string (mkS (xs ++ [UInt8.ofNat M]))) := c1
          have hz := ssize_st s8 p kb mb 40 0 F8 (oneL xs M) (1 + 1) w9 H9.ok
          have hzl := mkS_size (xs ++ [UInt8.ofNat M])
          have e4 : sizeL (oneL xs M) = 25 + (mkS (xs ++ [UInt8.ofNat M])).size := by rw [hzl]; simp [oneL, sizeL]; omega
          rw [e4] at hz
          have hbd : (mkS (xs ++ [UInt8.ofNat M])).size ≤ 401 := by rw [hzl]; have := hxl.out; simp; omega
          obtain ⟨ys, hys⟩ : ∃ ys, xs ++ [UInt8.ofNat M] = ys := ⟨_, rfl⟩
          rw [hys] at c2 hz hbd ⊢
          obtain ⟨z, hzz⟩ : ∃ z, (mkS ys).size = z := ⟨_, rfl⟩
          rw [hzz] at hz hbd
          have hB9 := H9.below
          replace hz : Hid _ := hz
          have e5 : IntKind.i64.wrap ((k : Int) - 1) = (M : Int) := by rw [IntKind.wrap_i64]; have := hkM'.out; omega
          have e6 : IntKind.i64.wrap (25 + (z : Int)) = ((25 + z : Nat) : Int) := by rw [IntKind.wrap_i64]; omega
          clear hg1 hq9 H8 H9 hW8 hW9 c1 hcc ht1 hzl e4 hys
          go_wp2_with fail
          refine Calls.mono hz.out ?_
          rintro e w10 ⟨rfl, hq10⟩
          clear hz
          go_wp2
          go_ret
          exact ⟨rfl, hB9.trans (hq10.mono hB9.size)⟩
end Go.Proofs.YtpnpjblohijajaaGreat
