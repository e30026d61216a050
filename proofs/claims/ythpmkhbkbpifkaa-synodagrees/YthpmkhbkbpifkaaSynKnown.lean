/- paddocklaw11.known returns true, where package synod answers as it has to. -/
import Derived.Test.YthpmkhbkbpifkaaProSpec
namespace Go.Proofs.Ythpmkhbkbpifkaa
set_option linter.unusedSimpArgs false
set_option linter.unusedVariables false
set_option maxRecDepth 100000
open Go.RowKit

theorem bal_k1 (n : Nat) : Try.prog.built 31 [(0, .int .u32 (n : Int))] = some (balC ⟨n, 0⟩) := by kernel_rfl
theorem inc_k1 (k : Nat) : Try.prog.built 23 [(0, .int .u8 (k : Int))] = some (incC ⟨k, 0, 0⟩) := by kernel_rfl
theorem inc_k2 (k o : Nat) : Try.prog.built 23 [(0, .int .u8 (k : Int)), (1, .int .u8 (o : Int))] = some (incC ⟨k, o, 0⟩) := by kernel_rfl
section laws
variable {ops : Array Oper} {S : World → Prop} {o : Oper} {a : Act}
theorem yields_b0 (hw : Region.wanted o (yielded ops a.tmps) = true) (ho : o.op = .build 23 #[]) : YieldsIf Try.prog ops S o (.agg (incC inc0)) a := by
  refine .inl ⟨hw, fun w _ => ?_⟩
  unfold execOp
  simp [ho, run_build w 23 #[] (incC inc0) (by simpa using inc_built0), Sem.run_bind]
theorem yields_bk1 (n : Nat) (hw : Region.wanted o (yielded ops a.tmps) = true) (x : Operand) (ho : o.op = .build 31 #[(0, x)]) (hx : a.eval x = .int .u32 (n : Int)) : YieldsIf Try.prog ops S o (.agg (balC ⟨n, 0⟩)) a := by
  refine .inl ⟨hw, fun w _ => ?_⟩
  unfold execOp
  simp [ho, hx, run_build w 31 _ (balC ⟨n, 0⟩) (bal_k1 n), Sem.run_bind]
theorem yields_ik1 (k : Nat) (hw : Region.wanted o (yielded ops a.tmps) = true) (x : Operand) (ho : o.op = .build 23 #[(0, x)]) (hx : a.eval x = .int .u8 (k : Int)) : YieldsIf Try.prog ops S o (.agg (incC ⟨k, 0, 0⟩)) a := by
  refine .inl ⟨hw, fun w _ => ?_⟩
  unfold execOp
  simp [ho, hx, run_build w 23 _ (incC ⟨k, 0, 0⟩) (inc_k1 k), Sem.run_bind]
end laws

/-- The steps that 'known' plays. -/
def kn1 : ProV := startM (newM 1 ⟨2, 3, 0⟩) ⟨4, 0⟩
def kn2 : ProV := (promM kn1 0 ⟨5, 1⟩ bal0 inc0 false).1
def kn3 : ProV := (promM kn2 2 ⟨5, 1⟩ ⟨3, 0⟩ ⟨4, 0, 0⟩ true).1
def kn4 : ProV := (accdM kn3 0 ⟨5, 1⟩).1
def kn5 : ProV := (accdM kn4 1 ⟨5, 1⟩).1
theorem kn_b : kn1.b = ⟨5, 1⟩ := rfl
theorem kn_v : kn3.value = ⟨4, 0, 0⟩ ∧ kn3.hasV = true := ⟨rfl, by decide +kernel⟩
theorem kn_d : kn5.dec = ⟨4, 0, 0⟩ ∧ kn5.hasD = true := ⟨rfl, by decide +kernel⟩
theorem kn_p1 : (promM kn1 0 ⟨5, 1⟩ bal0 inc0 false).2 = false := by decide +kernel
theorem kn_p2 : (promM kn2 2 ⟨5, 1⟩ ⟨3, 0⟩ ⟨4, 0, 0⟩ true).2 = true := by decide +kernel
theorem kn_a1 : (accdM kn3 0 ⟨5, 1⟩).2 = false := by decide +kernel
theorem kn_a2 : (accdM kn4 1 ⟨5, 1⟩).2 = true := by decide +kernel

theorem b51_ok : BalOk ⟨5, 1⟩ := ⟨by decide, by decide⟩
theorem i400_ok : IncOk ⟨4, 0, 0⟩ := ⟨by decide, by decide, by decide, by decide⟩

set_option maxHeartbeats 4000000 in
theorem sknown_any {Is : World → Nat → ProV → (Nat → Prop) → Prop} (S : ProSpec Is) (w : World) : Calls Try.prog 8 #[] w fun e w' => e = .returned (.bool true) ∧ Below w.heap.size w w' := by
  go_enter Try.func8, Try.ntmps8
  go_wp2_with (first
    | (refine wpList_build_two (by rfl) 23 0 1 _ _ rfl _ _ rfl rfl (incC ⟨2, 3, 0⟩) (inc_k2 2 3) ?_))
  refine (S.new 1 ⟨2, 3, 0⟩ _ (by decide) ⟨by decide, by decide, by decide, by decide⟩).mono ?_
  rintro e w1 ⟨p, F, rfl, hI, hF, hb⟩
  have hpt : ptr11 p = .pointer (some ⟨p, 0, none⟩) := rfl
  rw [hpt]
  go_wp2_with fail
  refine (S.quorum _).mono ?_
  rintro e w2 ⟨rfl, hq⟩
  replace hI := S.later hI hq
  replace hb := hb.trans (hq.mono hb.size)
  clear hq
  have hk := S.start ⟨4, 0⟩ hI ⟨by decide, by decide⟩
  rw [show startM (newM 1 ⟨2, 3, 0⟩) ⟨4, 0⟩ = kn1 from rfl, kn_b, hpt] at hk
  go_wp2_with (first
    | (refine wpList_build_one (by rfl) 31 0 _ rfl _ rfl (balC ⟨4, 0⟩) (bal_k1 4) ?_))
  refine hk.mono ?_
  rintro e w3 ⟨rfl, ⟨F', hI', hF'⟩, ho⟩
  have hlow := low_step hF hb.size hF'
  replace hb := hb.trans (ho.below hF hb.size)
  replace hI := hI'
  clear hk ho hI' hF hF'
  obtain ⟨w4, hw4, hB, hq⟩ := new_var w3 31 (balC bal0) (balC ⟨5, 1⟩)
  have hg : ¬ F' w3.heap.size := fun h => Nat.lt_irrefl _ (S.lt hI _ h)
  have hne := (Clear.nil F').add hg 31 (balC ⟨5, 1⟩)
  replace hI := S.later hI hq
  have hE := ((Env.start hb).later hq).add hB
  clear hq hb hB hg
  go_wp2_with (first
    | (refine alloc_bal (by rfl) rfl ?_)
    | (refine store_bal ⟨5, 1⟩ bal0 (by rfl) _ _ rfl w3.heap.size rfl rfl ?hg ?_; (case hg => exact Has.new _ _ _); rw [hw4]))
  clear hw4
  generalize w3.heap.size = g at *
  refine wp_region_plan (fun W => Env w W _) (Plan.of [(0, true), (1, true), (2, true), (3, true), (5, true), (6, true), (7, true), (8, true), (4, false), (9, false), (10, true), (11, true)] .done) (by kernel_rfl) (by kernel_rfl) (by kernel_rfl) (by kernel_rfl) hE.drew ?_
  iterate 1
    first
      | (refine plan_pass _ rfl (by rfl) ?_)
      | (refine plan_take _ _ rfl (.inl ⟨by rfl, fun W hS => by clear hS; go_simp; try with_reducible rfl⟩) ?_)
    try simp only [Act.put, List.setIfInBounds_toArray, List.set_cons_zero, List.set_cons_succ]
  refine plan_take _ _ rfl (yields_bal ⟨5, 1⟩ (by rfl) _ rfl g rfl (fun _ h => h.get 0 rfl)) ?_
  try simp only [Act.put, List.setIfInBounds_toArray, List.set_cons_zero, List.set_cons_succ]
  refine plan_take _ _ rfl (yields_build_bal0 (by rfl) rfl) ?_
  try simp only [Act.put, List.setIfInBounds_toArray, List.set_cons_zero, List.set_cons_succ]
  refine plan_take _ _ rfl (yields_b0 (by rfl) rfl) ?_
  try simp only [Act.put, List.setIfInBounds_toArray, List.set_cons_zero, List.set_cons_succ]
  iterate 1
    first
      | (refine plan_pass _ rfl (by rfl) ?_)
      | (refine plan_take _ _ rfl (.inl ⟨by rfl, fun W hS => by clear hS; go_simp; try with_reducible rfl⟩) ?_)
    try simp only [Act.put, List.setIfInBounds_toArray, List.set_cons_zero, List.set_cons_succ]
  refine plan_take _ _ rfl (yields_bal ⟨5, 1⟩ (by rfl) _ rfl g rfl (fun _ h => h.get 0 rfl)) ?_
  try simp only [Act.put, List.setIfInBounds_toArray, List.set_cons_zero, List.set_cons_succ]
  refine plan_take _ _ rfl (yields_bk1 3 (by rfl) _ rfl rfl) ?_
  try simp only [Act.put, List.setIfInBounds_toArray, List.set_cons_zero, List.set_cons_succ]
  refine plan_take _ _ rfl (yields_ik1 4 (by rfl) _ rfl rfl) ?_
  try simp only [Act.put, List.setIfInBounds_toArray, List.set_cons_zero, List.set_cons_succ]
  replace hE := hE.drew
  replace hI := S.drew hI
  generalize w4.drew = w5 at *
  have hk := S.promise 0 ⟨5, 1⟩ bal0 inc0 false hI (by decide) b51_ok bal0_ok inc0_ok
  rw [kn_p1, show (promM kn1 0 ⟨5, 1⟩ bal0 inc0 false).1 = kn2 from rfl, hpt] at hk
  refine plan_run _ rfl (fun K hK => ?_)
  go_simp
  refine hk.mono ?_
  rintro e w6 ⟨rfl, ⟨F', hI', hF'⟩, ho⟩
  have hlow' := low_step hlow hE.below.size hF'
  have hne' := hne.step hE hF'
  replace hE := hE.off ho hlow hne
  replace hI := hI'
  replace hlow := hlow'
  replace hne := hne'
  refine hK.out _ _ hE ?_
  clear hK K hk ho hF' hI' hlow' hne'
  have hk := S.promise 2 ⟨5, 1⟩ ⟨3, 0⟩ ⟨4, 0, 0⟩ true hI (by decide) b51_ok ⟨by decide, by decide⟩ i400_ok
  rw [kn_p2, show (promM kn2 2 ⟨5, 1⟩ ⟨3, 0⟩ ⟨4, 0, 0⟩ true).1 = kn3 from rfl, hpt] at hk
  refine plan_run _ rfl (fun K hK => ?_)
  go_simp
  refine hk.mono ?_
  rintro e w7 ⟨rfl, ⟨F', hI', hF'⟩, ho⟩
  have hlow' := low_step hlow hE.below.size hF'
  have hne' := hne.step hE hF'
  replace hE := hE.off ho hlow hne
  replace hI := hI'
  replace hlow := hlow'
  replace hne := hne'
  refine hK.out _ _ hE ?_
  clear hK K hk ho hF' hI' hlow' hne'
  iterate 2
    first
      | (refine plan_pass _ rfl (by rfl) ?_)
      | (refine plan_take _ _ rfl (.inl ⟨by rfl, fun W hS => by clear hS; go_simp; try with_reducible rfl⟩) ?_)
    try simp only [Act.put, List.setIfInBounds_toArray, List.set_cons_zero, List.set_cons_succ]
  refine plan_done ?_
  have hk := S.value hI
  rw [kn_v.2, hpt] at hk
  go_wp2_with fail
  refine hk.mono ?_
  rintro e w8 ⟨y, rfl, _, hy, hq⟩
  obtain rfl : y = ⟨4, 0, 0⟩ := (hy (by trivial)).trans kn_v.1
  replace hI := S.later hI hq
  replace hE := hE.later hq
  clear hk hq hy
  obtain ⟨w9, hv, hB, hq⟩ := new_var w8 23 (incC inc0) (incC ⟨4, 0, 0⟩)
  have hg : ¬ F' w8.heap.size := fun h => Nat.lt_irrefl _ (S.lt hI _ h)
  replace hI := S.later hI hq
  replace hne := hne.add hg 23 (incC ⟨4, 0, 0⟩)
  replace hE := (hE.later hq).add hB
  clear hq hB hg
  go_wp2_with (first
    | (refine alloc_inc0 (by rfl) rfl ?_)
    | (refine store_inc ⟨4, 0, 0⟩ inc0 (by rfl) _ _ rfl w8.heap.size rfl rfl ?hg ?_; (case hg => exact Has.new _ _ _); rw [hv]))
  clear hv
  generalize w8.heap.size = gx at *
  refine wp_region_plan (fun W => Env w W _) (Plan.of [(0, true), (1, true), (3, true), (4, true), (2, false), (5, false), (6, true), (7, true)] .done) (by kernel_rfl) (by kernel_rfl) (by kernel_rfl) (by kernel_rfl) hE.drew ?_
  iterate 1
    first
      | (refine plan_pass _ rfl (by rfl) ?_)
      | (refine plan_take _ _ rfl (.inl ⟨by rfl, fun W hS => by clear hS; go_simp; try with_reducible rfl⟩) ?_)
    try simp only [Act.put, List.setIfInBounds_toArray, List.set_cons_zero, List.set_cons_succ]
  refine plan_take _ _ rfl (yields_bal ⟨5, 1⟩ (by rfl) _ rfl g rfl (fun _ h => h.get 0 rfl)) ?_
  try simp only [Act.put, List.setIfInBounds_toArray, List.set_cons_zero, List.set_cons_succ]
  iterate 1
    first
      | (refine plan_pass _ rfl (by rfl) ?_)
      | (refine plan_take _ _ rfl (.inl ⟨by rfl, fun W hS => by clear hS; go_simp; try with_reducible rfl⟩) ?_)
    try simp only [Act.put, List.setIfInBounds_toArray, List.set_cons_zero, List.set_cons_succ]
  refine plan_take _ _ rfl (yields_bal ⟨5, 1⟩ (by rfl) _ rfl g rfl (fun _ h => h.get 0 rfl)) ?_
  try simp only [Act.put, List.setIfInBounds_toArray, List.set_cons_zero, List.set_cons_succ]
  replace hE := hE.drew
  replace hI := S.drew hI
  generalize w9.drew = w10 at *
  have hk := S.accepted 0 ⟨5, 1⟩ hI (by decide) b51_ok
  rw [kn_a1, show (accdM kn3 0 ⟨5, 1⟩).1 = kn4 from rfl, hpt] at hk
  refine plan_run _ rfl (fun K hK => ?_)
  go_simp
  refine hk.mono ?_
  rintro e w11 ⟨rfl, ⟨F', hI', hF'⟩, ho⟩
  have hlow' := low_step hlow hE.below.size hF'
  have hne' := hne.step hE hF'
  replace hE := hE.off ho hlow hne
  replace hI := hI'
  replace hlow := hlow'
  replace hne := hne'
  refine hK.out _ _ hE ?_
  clear hK K hk ho hF' hI' hlow' hne'
  have hk := S.accepted 1 ⟨5, 1⟩ hI (by decide) b51_ok
  rw [kn_a2, show (accdM kn4 1 ⟨5, 1⟩).1 = kn5 from rfl, hpt] at hk
  refine plan_run _ rfl (fun K hK => ?_)
  go_simp
  refine hk.mono ?_
  rintro e w12 ⟨rfl, ⟨F', hI', hF'⟩, ho⟩
  have hlow' := low_step hlow hE.below.size hF'
  have hne' := hne.step hE hF'
  replace hE := hE.off ho hlow hne
  replace hI := hI'
  replace hlow := hlow'
  replace hne := hne'
  refine hK.out _ _ hE ?_
  clear hK K hk ho hF' hI' hlow' hne'
  iterate 2
    first
      | (refine plan_pass _ rfl (by rfl) ?_)
      | (refine plan_take _ _ rfl (.inl ⟨by rfl, fun W hS => by clear hS; go_simp; try with_reducible rfl⟩) ?_)
    try simp only [Act.put, List.setIfInBounds_toArray, List.set_cons_zero, List.set_cons_succ]
  refine plan_done ?_
  have hk := S.decided hI
  rw [kn_d.2, hpt] at hk
  go_wp2_with fail
  refine hk.mono ?_
  rintro e w13 ⟨y, rfl, _, hy, hq⟩
  obtain rfl : y = ⟨4, 0, 0⟩ := (hy (by trivial)).trans kn_d.1
  replace hI := S.later hI hq
  replace hE := hE.later hq
  clear hk hq hy
  obtain ⟨w14, hv, hB, hq⟩ := new_var w13 23 (incC inc0) (incC ⟨4, 0, 0⟩)
  have hg : ¬ F' w13.heap.size := fun h => Nat.lt_irrefl _ (S.lt hI _ h)
  replace hI := S.later hI hq
  replace hne := hne.add hg 23 (incC ⟨4, 0, 0⟩)
  replace hE := (hE.later hq).add hB
  clear hq hB hg
  have g0 := hE.get 0 rfl
  have g1 := hE.get 1 rfl
  have g2 := hE.get 2 rfl
  have z := (g1.cell 0).trans (show _ = some (.int .u8 4) from rfl)
  go_wp2_with (first
    | (refine alloc_inc0 (by rfl) rfl ?_)
    | (refine store_inc ⟨4, 0, 0⟩ inc0 (by rfl) _ _ rfl w13.heap.size rfl rfl ?hg ?_; (case hg => exact Has.new _ _ _); rw [hv])
    | (refine load_bal ⟨5, 1⟩ (by rfl) _ rfl g rfl ?hg ?_; (case hg => exact g0))
    | (refine wpList_build_two (by rfl) 31 0 1 _ _ rfl _ _ rfl rfl (balC ⟨5, 1⟩) (bal_built2 5 1) ?_)
    | (refine bin_bal_eq ⟨5, 1⟩ ⟨5, 1⟩ b51_ok b51_ok (by rfl) _ _ _ rfl rfl rfl ?_; rw [show sameBal ⟨5, 1⟩ ⟨5, 1⟩ = true from rfl])
    | (refine load_inc ⟨4, 0, 0⟩ (by rfl) _ rfl w13.heap.size rfl ?hg ?_; (case hg => exact g2))
    | (refine load_inc ⟨4, 0, 0⟩ (by rfl) _ rfl gx rfl ?hg ?_; (case hg => exact g1))
    | (refine bin_inc ⟨4, 0, 0⟩ ⟨4, 0, 0⟩ i400_ok i400_ok (by rfl) _ _ _ rfl rfl rfl ?_; rw [show sameInc ⟨4, 0, 0⟩ ⟨4, 0, 0⟩ = true from rfl]))
  go_ret
  exact ⟨rfl, hE.below⟩
end Go.Proofs.Ythpmkhbkbpifkaa
