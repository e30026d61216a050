/- paddocklaw5.known returns true, where package history answers as it has to. -/
import Derived.Test.YtmfgmdglpeadbaaHistSpec
import Derived.KernelRfl
namespace Go.Proofs.Ytmfgmdglpeadbaa
set_option linter.unusedSimpArgs false
set_option linter.unusedVariables false
open Go.RowKit

def incN : IncV := ⟨4, 0, 0⟩
theorem incN_ok : IncOk incN := ⟨by decide, by decide, by decide, by decide⟩
theorem none_ok : okA (mapH [] 0) incN = true := by decide
theorem add_3 : addH [] 3 incN = (50, []) := addH_gap (by decide)
theorem add_1 : addH [] 1 incN = (51, []) := addH_old (by decide)
theorem add_2 : addH [] 2 incN = (0, [incN]) := addH_yes rfl none_ok
theorem iv_known : ivals [incN] 0 = [(1, actM firstM 0)] := by kernel_rfl
theorem since_known : sinceH [incN] 0 = 1 := by unfold sinceH; rw [iv_known]; rfl
theorem since_none (xs : List IncV) {g : Nat} (h : ¬ g < 4) : sinceH xs g = 0 := by unfold sinceH ivals; rw [if_neg h]; rfl
theorem map_2 : mapE [incN] 2 = (mapH [incN] 1, true) := mapE_yes ⟨by decide, by decide⟩
theorem map_3 : mapE [incN] 3 = (zeroM, false) := mapE_no (by decide)
theorem epoch_2 : (mapH [incN] 1).epoch = 2 := rfl

/-- What a change of an object leaves of elder memory. -/
theorem off_step {w0 w w' : World} {F F' : Nat → Prop} (hb : Below w0.heap.size w0 w) (hF : ∀ b, F b → w0.heap.size ≤ b) (ho : Off F w w') (hF' : ∀ b, F' b → F b ∨ w.heap.size ≤ b) : Below w0.heap.size w0 w' ∧ ∀ b, F' b → w0.heap.size ≤ b :=
  ⟨hb.trans (ho.below hF hb.size), fun b h => by
    rcases hF' b h with h | h
    · exact hF b h
    · exact Nat.le_trans hb.size h⟩

set_option maxRecDepth 100000 in
set_option maxHeartbeats 2000000 in
theorem hknown_any {Is : World → Nat → List IncV → (Nat → Prop) → Prop} (S : HistSpec Is) (w : World) : Calls Try.prog 9 #[] w fun e w' => e = .returned (.bool true) ∧ Below w.heap.size w w' := by
  go_enter Try.func9, Try.ntmps9
  go_wp2_with fail
  refine (S.new _).mono ?_
  rintro e w1 ⟨p, F, rfl, hI, hF, hb⟩
  have hpt : ptr p = .pointer (some ⟨p, 0, none⟩) := rfl
  rw [hpt]
  go_wp2_with fail
  refine (S.last hI).mono ?_
  rintro e w2 ⟨rfl, hq⟩
  replace hI := S.later hI hq
  replace hb := hb.trans (hq.mono hb.size)
  clear hq
  go_wp2_with fail
  refine (S.add 3 incN hI (by decide) incN_ok).mono ?_
  rintro e w3 ⟨rfl, ⟨F1, hI1, hF1⟩, ho⟩
  obtain ⟨hb1, hF1'⟩ := off_step hb hF ho hF1
  rw [add_3] at hI1
  rw [add_3]
  clear ho hF1 hI hb hF
  go_wp2_with fail
  refine (S.add 1 incN hI1 (by decide) incN_ok).mono ?_
  rintro e w4 ⟨rfl, ⟨F2, hI2, hF2⟩, ho⟩
  obtain ⟨hb2, hF2'⟩ := off_step hb1 hF1' ho hF2
  rw [add_1] at hI2
  rw [add_1]
  clear ho hF2 hI1 hb1 hF1'
  go_wp2_with fail
  refine (S.add 2 incN hI2 (by decide) incN_ok).mono ?_
  rintro e w5 ⟨rfl, ⟨F3, hI3, hF3⟩, ho⟩
  obtain ⟨hb3, hF3'⟩ := off_step hb2 hF2' ho hF3
  rw [add_2] at hI3
  rw [add_2]
  clear ho hF3 hI2 hb2 hF2'
  go_wp2_with fail
  have hiv := S.intervals 0 hI3 (by decide)
  rw [iv_known] at hiv
  refine hiv.mono ?_
  rintro e w6 ⟨ao, c, rfl, hV, hq⟩
  replace hI3 := S.later hI3 hq
  replace hb3 := hb3.trans (hq.mono hb3.size)
  clear hq hiv
  have hcap := hV.cap
  have hle := hV.le
  go_wp2_with fail
  refine (S.map 2 hI3 (by decide)).mono ?_
  rintro e w7 ⟨rfl, hq⟩
  replace hI3 := S.later hI3 hq
  replace hV := hV.later hq
  replace hb3 := hb3.trans (hq.mono hb3.size)
  rw [map_2]
  clear hq
  have hM := (Has.new w7 44 (mapC zeroM)).row (mapC (mapH [incN] 1))
  have hbb := below_setRow ((Below.refl w7.heap.size w7).alloc (Nat.le_refl _) (.cells (mapC zeroM) 44)) (Nat.le_refl _) (mapC (mapH [incN] 1))
  replace hI3 := S.later hI3 hbb
  replace hV := hV.later hbb
  replace hb3 := hb3.trans (hbb.mono hb3.size)
  clear hbb
  go_wp2_with (first
    | (refine alloc_map (by rfl) rfl ?_)
    | (refine store_map (mapH [incN] 1) zeroM (by rfl) _ _ rfl _ rfl rfl ?hg ?_; (case hg => exact Has.new _ _ _); generalize (w7.alloc (.cells (mapC zeroM) 44)).setRow w7.heap.size (mapC (mapH [incN] 1)) = w8 at *))
  refine (S.map 3 hI3 (by decide)).mono ?_
  rintro e w9 ⟨rfl, hq⟩
  replace hI3 := S.later hI3 hq
  replace hV := hV.later hq
  replace hM := hM.later hq
  replace hb3 := hb3.trans (hq.mono hb3.size)
  rw [map_3]
  clear hq
  have hbb := below_setRow ((Below.refl w9.heap.size w9).alloc (Nat.le_refl _) (.cells (mapC zeroM) 44)) (Nat.le_refl _) (mapC zeroM)
  replace hI3 := S.later hI3 hbb
  replace hV := hV.later hbb
  replace hM := hM.later hbb
  replace hb3 := hb3.trans (hbb.mono hb3.size)
  clear hbb
  have ce := hM.cell 0
  rw [mapC_epoch, epoch_2] at ce
  cases ao with
  | none => have h1 := hV.nil rfl; simp at hle; omega
  | some ad =>
    obtain ⟨cs, _⟩ := hV.at' ad rfl 0 (by simp)
    have e0 : ad.add (0 * 2) = ad := by cases ad; simp [Addr.add]
    rw [e0] at cs
    have cs : ((w9.alloc (.cells (mapC zeroM) 44)).setRow w9.heap.size (mapC zeroM)).cell? ad = some (.int .u32 1) := cs
    go_wp2_with (first
      | (refine alloc_map (by rfl) rfl ?_)
      | (refine store_map zeroM zeroM (by rfl) _ _ rfl _ rfl rfl ?hg ?_; (case hg => exact Has.new _ _ _); generalize (w9.alloc (.cells (mapC zeroM) 44)).setRow w9.heap.size (mapC zeroM) = w10 at *))
    have hs0 := S.since 0 hI3 (by decide)
    rw [since_known] at hs0
    refine hs0.mono ?_
    rintro e w11 ⟨rfl, hq⟩
    replace hI3 := S.later hI3 hq
    replace hM := hM.later hq
    replace hb3 := hb3.trans (hq.mono hb3.size)
    have ce := hM.cell 0
    rw [mapC_epoch, epoch_2] at ce
    clear hq hs0
    go_wp2_with fail
    have hs4 := S.since 4 hI3 (by decide)
    rw [since_none _ (by decide)] at hs4
    refine hs4.mono ?_
    rintro e w12 ⟨rfl, hq⟩
    replace hb3 := hb3.trans (hq.mono hb3.size)
    clear hq hs4
    go_wp2
    go_ret
    exact ⟨rfl, hb3⟩
end Go.Proofs.Ytmfgmdglpeadbaa
