/- paddocklaw10.BallotRises returns true, for whatever row of steps. -/
import Derived.Test.YtlcappkokdgpgaaBalKnown
import Derived.Test.YtlcappkokdgpgaaBalFacts
import Derived.Test.YtlcappkokdgpgaaBalOpen
namespace Go.Proofs.Ytlcappkokdgpgaa
set_option linter.unusedSimpArgs false
set_option linter.unusedVariables false
set_option maxRecDepth 100000
open Go.RowKit

section laws
variable {ops : Array Oper} {o : Oper} {a : Act} {S : World → Prop}
theorem yields_bal_nes (b : BalV) (hb : BalOk b) (hw : Region.wanted o (yielded ops a.tmps) = true) (x y : Operand) (ty' : TypeId) (ho : o.op = .binOp .neq 29 x y ty') (hx : a.eval x = .agg (balC b)) (hy : a.eval y = .agg (balC b)) : YieldsIf Try.prog ops S o (.bool false) a := by
  have := yields_bal_ne (S := S) b b hb hb hw x y ty' ho hx hy
  rw [same_self] at this
  exact this
theorem yields_inc_nes (b : IncV) (hb : IncOk b) (hw : Region.wanted o (yielded ops a.tmps) = true) (x y : Operand) (ty' : TypeId) (ho : o.op = .binOp .neq 31 x y ty') (hx : a.eval x = .agg (incC b)) (hy : a.eval y = .agg (incC b)) : YieldsIf Try.prog ops S o (.bool false) a := by
  have := yields_inc_ne (S := S) b b hb hb hw x y ty' ho hx hy
  rw [(sameInc_is b b).2 rfl] at this
  exact this
end laws

/-- What a step makes of an acceptor. -/
structure Rise (a A : AccV) (b : BalV) (E : Nat) : Prop where
  up : lessB A.pro a.pro = false
  inv : lessB A.pro A.acc = false
  same : E ≠ 0 → A = a
  pro : E = 0 → A.pro = b
  low : lessB b a.pro = true → E ≠ 0

theorem less_trans {a b c : BalV} (h1 : lessB a b = false) (h2 : lessB b c = false) : lessB a c = false := by
  rw [← Bool.not_eq_true, lessB_is] at *
  omega
theorem rise_acc (a : AccV) (b : BalV) (x : IncV) (h : lessB a.pro a.acc = false) : Rise a (accM a b x) b (errA a.pro b x) := by
  rcases errA_cases a.pro b x with ⟨h1, h2⟩ | ⟨h1, h2, h3, h4⟩ | ⟨h1, h2, h3, h4⟩
  · have : accM a b x = a := by unfold accM; rw [h1]; rfl
    rw [this, h1]
    exact ⟨less_same _, h, fun _ => rfl, fun e => by omega, fun _ => by omega⟩
  · have : accM a b x = a := by unfold accM; rw [h1]; rfl
    rw [this, h1]
    exact ⟨less_same _, h, fun _ => rfl, fun e => by omega, fun _ => by omega⟩
  · have : accM a b x = ⟨b, b, x⟩ := by unfold accM; rw [h1]; rfl
    rw [this, h1]
    exact ⟨h4, less_same _, fun e => absurd rfl e, fun _ => rfl, fun e => by rw [h4] at e; cases e⟩
theorem rise_prep (a : AccV) (b : BalV) (h : lessB a.pro a.acc = false) : Rise a (prepM a b) b (errP a.pro b) := by
  rcases errP_cases a.pro b with ⟨h1, h2⟩ | ⟨h1, h2, h3⟩ | ⟨h1, h2, h3⟩
  · have : prepM a b = a := by unfold prepM; rw [h1]; rfl
    rw [this, h1]
    exact ⟨less_same _, h, fun _ => rfl, fun e => by omega, fun _ => by omega⟩
  · have : prepM a b = a := by unfold prepM; rw [h1]; rfl
    rw [this, h1]
    exact ⟨less_same _, h, fun _ => rfl, fun e => by omega, fun _ => by omega⟩
  · have : prepM a b = ⟨b, a.acc, a.inc⟩ := by unfold prepM; rw [h1]; rfl
    rw [this, h1]
    exact ⟨h3, less_trans h3 h, fun e => absurd rfl e, fun _ => rfl, fun e => by rw [h3] at e; cases e⟩

set_option maxHeartbeats 16000000 in
theorem rises_walk (ao : Option Addr) (c : Nat) (l : List StepV) (w : World) (hSl : Sl w ao c 6 (stepR l)) (hl : ∀ s ∈ l, StepOk s) :
    Calls Try.prog 5 #[.slice ao l.length c] w fun e w' => e = .returned (.bool true) ∧ Below w.heap.size w w' := by
  have hle := step_le hSl
  have hcap := hSl.cap
  go_enter Try.func5, Try.ntmps5
  go_wp2_with fail
  refine (bknown_any _).mono ?_
  rintro e w1 ⟨rfl, hb⟩
  by_cases hlen : l.length ≤ 60
  · have hlenI : (l.length : Int) ≤ 60 := by omega
    go_wp2_with fail
    refine (bnew_any _).mono ?_
    rintro e w2 ⟨p, rfl, hp, hA, hq⟩
    replace hp : w.heap.size ≤ p := Nat.le_trans hb.size hp
    replace hb := hb.trans (hq.mono hb.size)
    clear hq
    go_wp2
    go_loopw [4] (fun i wr => ∃ (n : Nat) (a : AccV), n ≤ l.length ∧ i = .int .i64 n ∧ Has wr p 56 (accC a) ∧ AccOk a ∧ lessB a.pro a.acc = false ∧ Below w.heap.size w wr) (fun i _ => l.length - (intOf i).toNat)
    case atStart => exact ⟨0, acc0, Nat.zero_le _, rfl, hA, acc0_ok, rfl, hb⟩
    case round =>
      clear hA hb
      obtain ⟨n, a, hn, rfl, hA, ha, hi, hb⟩ := hrel
      by_cases hlt : n < l.length
      · have hnI : (n : Int) < (l.length : Int) := by omega
        cases ao with
        | none => have h1 := hSl.nil rfl; omega
        | some ad =>
          have hsa : ∀ W, Below w.heap.size w W → _ := fun W hW => step_acc (hSl.later hW) n hlt
          have hsb : ∀ W, Below w.heap.size w W → ∀ j v, (balC l[n].b).toList[j]? = some v → W.cell? ((⟨(ad.add (n * 6)).block, (ad.add (n * 6)).off + 1, none⟩ : Addr).add j) = some v := fun W hW => step_b (hSl.later hW) n hlt
          have hsx : ∀ W, Below w.heap.size w W → _ := fun W hW => step_x (hSl.later hW) n hlt
          have hs := hl l[n] (List.getElem_mem hlt)
          generalize l[n] = s at *
          have hk := promised_any p a wr hA
          go_wp2_with fail
          refine hk.mono ?_
          rintro e w3 ⟨rfl, hq⟩
          have hE := Env.start (hb.trans (hq.mono hb.size))
          replace hA := hA.later hq
          have hlt3 := hA.lt
          clear hk hq hb
          obtain ⟨w4, hw4, hB, hq⟩ := new_var w3 29 (balC bal0) (balC a.pro)
          replace hE := (hE.later hq).add hB
          have hP := (Apart.nil p).add (show w3.heap.size ≠ p by omega) 29 (balC a.pro)
          replace hA := hA.later hq
          have hk := accepted_any p a w4 hA ha
          go_wp2_with (first
            | (refine alloc_bal (by rfl) rfl ?_)
            | (refine store_bal a.pro bal0 (by rfl) _ _ rfl w3.heap.size rfl rfl ?hg ?_; (case hg => exact Has.new _ _ _); rw [hw4]))
          refine hk.mono ?_
          rintro e w5 ⟨rfl, hq'⟩
          replace hE := hE.later hq'
          replace hA := hA.later hq'
          have hlt5 := hA.lt
          clear hk hq hq' hB hw4
          obtain ⟨v1, hv1, hL, hM, v2, hv2, hL2, hM2, hq⟩ := two_filled w5 a.acc a.inc
          replace hE := ((hE.later hq).add hL2).add hM2
          replace hP := (hP.add (show w5.heap.size ≠ p by omega) 29 (balC a.acc)).add (show w5.heap.size + 1 ≠ p by omega) 31 (incC a.inc)
          replace hA := hA.later hq
          clear hq hL2 hM2
          have z0 := hsa _ hE.below
          obtain ⟨sa, sb, sx⟩ := s
          have hrise : ∃ s : StepV, s = ⟨sa, sb, sx⟩ := ⟨_, rfl⟩
          clear hrise
          cases sa with
          | true =>
            go_wp2_with (first
              | (refine alloc_bal (by rfl) rfl ?_)
              | (refine alloc_inc0 (by rfl) rfl ?_; rw [alloc_sz, hv1])
              | (refine store_bal a.acc bal0 (by rfl) _ _ rfl w5.heap.size rfl rfl ?hg ?_; (case hg => exact hL))
              | (refine store_inc a.inc inc0 (by rfl) _ _ rfl (w5.heap.size + 1) rfl rfl ?hg ?_; (case hg => exact hM); rw [hv2]))
            clear hL hM hv1 hv2 z0
            refine wp_region_plan (fun W => Env w W _) (Plan.of [(0, true), (1, true), (2, true), (3, true), (4, true), (5, true), (6, true), (7, true), (8, true), (9, true), (10, true), (11, false), (12, true)] .done) (by kernel_rfl) (by kernel_rfl) (by kernel_rfl) (by kernel_rfl) hE.drew ?_
            iterate 5
              first
                | (refine plan_pass _ rfl (by rfl) ?_)
                | (refine plan_take _ _ rfl (.inl ⟨by rfl, fun W hS => by clear hS; go_simp; try with_reducible rfl⟩) ?_)
              try simp only [Act.put, List.setIfInBounds_toArray, List.set_cons_zero, List.set_cons_succ]
            refine plan_take _ _ rfl (yields_bal_any sb (by rfl) _ rfl _ rfl (fun _ h => hsb _ h.below)) ?_
            try simp only [Act.put, List.setIfInBounds_toArray, List.set_cons_zero, List.set_cons_succ]
            iterate 4
              first
                | (refine plan_pass _ rfl (by rfl) ?_)
                | (refine plan_take _ _ rfl (.inl ⟨by rfl, fun W hS => by clear hS; go_simp; try with_reducible rfl⟩) ?_)
              try simp only [Act.put, List.setIfInBounds_toArray, List.set_cons_zero, List.set_cons_succ]
            refine plan_take _ _ rfl (yields_inc_any sx (by rfl) _ rfl _ rfl (fun _ h => hsx _ h.below)) ?_
            try simp only [Act.put, List.setIfInBounds_toArray, List.set_cons_zero, List.set_cons_succ]
            have hk := accept_any p a sb sx _ hA.drew ha hs.b hs.x
            have hR := rise_acc a sb sx hi
            have hAok := accM_ok ha hs.b hs.x
            obtain ⟨E, hEe⟩ : ∃ E, errA a.pro sb sx = E := ⟨_, rfl⟩
            obtain ⟨A, hAe⟩ : ∃ A, accM a sb sx = A := ⟨_, rfl⟩
            rw [hEe, hAe] at hk
            rw [hEe, hAe] at hR
            rw [hAe] at hAok
            clear hEe hAe
            refine plan_run _ rfl (fun K hK => ?_)
            go_simp
            refine hk.mono ?_
            rintro e w6 ⟨rfl, hA6, hq⟩
            replace hE := hE.drew.but hq hp hP
            refine hK.out _ _ hE ?_
            clear hK K hq hk
            iterate 1
              first
                | (refine plan_pass _ rfl (by rfl) ?_)
                | (refine plan_take _ _ rfl (.inl ⟨by rfl, fun W hS => by clear hS; go_simp; try with_reducible rfl⟩) ?_)
              try simp only [Act.put, List.setIfInBounds_toArray, List.set_cons_zero, List.set_cons_succ]
            refine plan_done ?_
            replace hA := hA6
            clear hA6 hi hsa hsx
            obtain ⟨s, hse⟩ : ∃ s : StepV, s = ⟨true, sb, sx⟩ := ⟨_, rfl⟩
            obtain rfl : sb = s.b := by rw [hse]
            clear hse
            have hinv : Hid _ := hR.inv
            have l1 := fun W => less_any A.pro a.pro W hAok.pro ha.pro
            rw [hR.up] at l1
            have l2 := fun W => less_any A.pro A.acc W hAok.pro hAok.acc
            rw [hR.inv] at l2
            have l3 := fun W => less_any s.b a.pro W hs.b ha.pro
            by_cases hE0 : E = 0
            · have hAp := hR.pro hE0
              have hL : lessB s.b a.pro = false := by
                rw [← Bool.not_eq_true]
                exact fun h => hR.low h hE0
              rw [hL] at l3
              clear hL hR
              subst hE0
              rw [← hAp] at l3 hsb
              clear hAp
              cases hh : hasA A
              all_goals
                replace hh : Hid _ := hh
                have hplt := hA.lt
                have hk := promised_any p A w6 hA
                go_wp2_with fail
                refine hk.mono ?_
                rintro e w7 ⟨rfl, hq⟩
                replace hE := hE.later hq
                replace hA := hA.later hq
                have hlt7 := hA.lt
                clear hk hq
                obtain ⟨w8, hw8, hB, hq⟩ := new_var w7 29 (balC bal0) (balC A.pro)
                replace hE := (hE.later hq).add hB
                replace hA := hA.later hq
                have hk := accepted_any p A w8 hA hAok
                rw [hh.out] at hk
                go_wp2_with (first
                  | (refine alloc_bal (by rfl) rfl ?_)
                  | (refine store_bal A.pro bal0 (by rfl) _ _ rfl w7.heap.size rfl rfl ?hg ?_; (case hg => exact Has.new _ _ _); rw [hw8]))
                refine hk.mono ?_
                rintro e w9 ⟨rfl, hq'⟩
                replace hE := hE.later hq'
                replace hA := hA.later hq'
                clear hk hq hq' hB hw8
                obtain ⟨v1, hv1, hL, hM, v2, hv2, hL2, hM2, hq⟩ := two_filled w9 A.acc A.inc
                replace hE := ((hE.later hq).add hL2).add hM2
                replace hA := hA.later hq
                clear hq hL2 hM2
                have hS := (hE.add hA).drew
                go_wp2_with (first
                  | (refine alloc_bal (by rfl) rfl ?_)
                  | (refine alloc_inc0 (by rfl) rfl ?_; rw [alloc_sz, hv1])
                  | (refine store_bal A.acc bal0 (by rfl) _ _ rfl w9.heap.size rfl rfl ?hg ?_; (case hg => exact hL))
                  | (refine store_inc A.inc inc0 (by rfl) _ _ rfl (w9.heap.size + 1) rfl rfl ?hg ?_; (case hg => exact hM); rw [hv2]))
                clear hL hM hv1 hv2 hE hA
                refine wp_region_plan (fun W => Env w W _) (Plan.of [(0, true), (1, true), (2, false), (3, true), (4, true), (5, true), (6, true), (7, true), (8, false), (9, true), (10, true), (11, true), (12, true), (13, true), (14, true), (15, true), (16, true), (17, true), (18, true), (19, true), (20, true), (21, true), (22, true), (23, true), (24, true), (25, true), (26, true), (27, true), (28, true), (29, true), (30, true), (31, true), (32, true), (33, true), (34, true), (35, true), (36, true), (37, true), (38, true), (39, true), (40, true), (41, true), (42, true), (43, true), (44, true), (45, true), (46, true), (47, true), (48, true), (49, true), (50, true), (51, true), (52, true), (53, true), (54, true), (55, false), (56, true), (57, true), (58, true), (59, true), (60, true)] .done) (by kernel_rfl) (by kernel_rfl) (by kernel_rfl) (by kernel_rfl) hS ?_
                first
                  | (refine plan_pass _ rfl (by rfl) ?_)
                  | (refine plan_take _ _ rfl (yields_bal (A.pro) (by rfl) _ rfl (w7.heap.size) rfl (fun _ h => h.get 3 rfl)) ?_)
                try simp only [Act.put, List.setIfInBounds_toArray, List.set_cons_zero, List.set_cons_succ]
                first
                  | (refine plan_pass _ rfl (by rfl) ?_)
                  | (refine plan_take _ _ rfl (yields_bal (a.pro) (by rfl) _ rfl (w3.heap.size) rfl (fun _ h => h.get 0 rfl)) ?_)
                try simp only [Act.put, List.setIfInBounds_toArray, List.set_cons_zero, List.set_cons_succ]
                first
                  | (refine plan_run _ rfl (fun K hK => ?_); go_simp; refine hK.out _ _ hS ?_; clear hK K)
                  | (refine plan_run _ rfl (fun K hK => ?_); go_simp; refine (l1 _).mono ?_; rintro e x1 ⟨rfl, hq⟩; replace hS := hS.later hq; refine hK.out _ _ hS ?_; clear hK K hq)
                iterate 3
                  first
                    | (refine plan_pass _ rfl (by rfl) ?_)
                    | (refine plan_take _ _ rfl (.inl ⟨by rfl, fun W hS => by clear hS; go_simp; try with_reducible rfl⟩) ?_)
                  try simp only [Act.put, List.setIfInBounds_toArray, List.set_cons_zero, List.set_cons_succ]
                first
                  | (refine plan_pass _ rfl (by rfl) ?_)
                  | (refine plan_take _ _ rfl (yields_bal (A.pro) (by rfl) _ rfl (w7.heap.size) rfl (fun _ h => h.get 3 rfl)) ?_)
                try simp only [Act.put, List.setIfInBounds_toArray, List.set_cons_zero, List.set_cons_succ]
                first
                  | (refine plan_pass _ rfl (by rfl) ?_)
                  | (refine plan_take _ _ rfl (yields_bal (A.acc) (by rfl) _ rfl (w9.heap.size) rfl (fun _ h => h.get 4 rfl)) ?_)
                try simp only [Act.put, List.setIfInBounds_toArray, List.set_cons_zero, List.set_cons_succ]
                first
                  | (refine plan_run _ rfl (fun K hK => ?_); go_simp; refine hK.out _ _ hS ?_; clear hK K)
                  | (refine plan_run _ rfl (fun K hK => ?_); go_simp; refine (l2 _).mono ?_; rintro e x2 ⟨rfl, hq⟩; replace hS := hS.later hq; refine hK.out _ _ hS ?_; clear hK K hq)
                iterate 6
                  first
                    | (refine plan_pass _ rfl (by rfl) ?_)
                    | (refine plan_take _ _ rfl (.inl ⟨by rfl, fun W hS => by clear hS; go_simp; try with_reducible rfl⟩) ?_)
                  try simp only [Act.put, List.setIfInBounds_toArray, List.set_cons_zero, List.set_cons_succ]
                first
                  | (refine plan_pass _ rfl (by rfl) ?_)
                  | (refine plan_take _ _ rfl (yields_bal (A.pro) (by rfl) _ rfl (w7.heap.size) rfl (fun _ h => h.get 3 rfl)) ?_)
                try simp only [Act.put, List.setIfInBounds_toArray, List.set_cons_zero, List.set_cons_succ]
                first
                  | (refine plan_pass _ rfl (by rfl) ?_)
                  | (refine plan_take _ _ rfl (yields_bal (a.pro) (by rfl) _ rfl (w3.heap.size) rfl (fun _ h => h.get 0 rfl)) ?_)
                try simp only [Act.put, List.setIfInBounds_toArray, List.set_cons_zero, List.set_cons_succ]
                first
                  | (refine plan_pass _ rfl (by rfl) ?_)
                  | (refine plan_take _ _ rfl (yields_bal_nes (a.pro) (ha.pro) (by rfl) _ _ _ rfl rfl rfl) ?_)
                try simp only [Act.put, List.setIfInBounds_toArray, List.set_cons_zero, List.set_cons_succ]
                iterate 1
                  first
                    | (refine plan_pass _ rfl (by rfl) ?_)
                    | (refine plan_take _ _ rfl (.inl ⟨by rfl, fun W hS => by clear hS; go_simp; try with_reducible rfl⟩) ?_)
                  try simp only [Act.put, List.setIfInBounds_toArray, List.set_cons_zero, List.set_cons_succ]
                first
                  | (refine plan_pass _ rfl (by rfl) ?_)
                  | (refine plan_take _ _ rfl (yields_bal (A.acc) (by rfl) _ rfl (w9.heap.size) rfl (fun _ h => h.get 4 rfl)) ?_)
                try simp only [Act.put, List.setIfInBounds_toArray, List.set_cons_zero, List.set_cons_succ]
                first
                  | (refine plan_pass _ rfl (by rfl) ?_)
                  | (refine plan_take _ _ rfl (yields_bal (a.acc) (by rfl) _ rfl (w5.heap.size) rfl (fun _ h => h.get 1 rfl)) ?_)
                try simp only [Act.put, List.setIfInBounds_toArray, List.set_cons_zero, List.set_cons_succ]
                first
                  | (refine plan_pass _ rfl (by rfl) ?_)
                  | (refine plan_take _ _ rfl (yields_bal_nes (a.acc) (ha.acc) (by rfl) _ _ _ rfl rfl rfl) ?_)
                try simp only [Act.put, List.setIfInBounds_toArray, List.set_cons_zero, List.set_cons_succ]
                iterate 2
                  first
                    | (refine plan_pass _ rfl (by rfl) ?_)
                    | (refine plan_take _ _ rfl (.inl ⟨by rfl, fun W hS => by clear hS; go_simp; try with_reducible rfl⟩) ?_)
                  try simp only [Act.put, List.setIfInBounds_toArray, List.set_cons_zero, List.set_cons_succ]
                first
                  | (refine plan_pass _ rfl (by rfl) ?_)
                  | (refine plan_take _ _ rfl (yields_inc (a.inc) (by rfl) _ rfl (w5.heap.size + 1) rfl (fun _ h => h.get 2 rfl)) ?_)
                try simp only [Act.put, List.setIfInBounds_toArray, List.set_cons_zero, List.set_cons_succ]
                first
                  | (refine plan_pass _ rfl (by rfl) ?_)
                  | (refine plan_take _ _ rfl (yields_inc (A.inc) (by rfl) _ rfl (w9.heap.size + 1) rfl (fun _ h => h.get 5 rfl)) ?_)
                try simp only [Act.put, List.setIfInBounds_toArray, List.set_cons_zero, List.set_cons_succ]
                first
                  | (refine plan_pass _ rfl (by rfl) ?_)
                  | (refine plan_take _ _ rfl (yields_inc_nes (a.inc) (ha.inc) (by rfl) _ _ _ rfl rfl rfl) ?_)
                try simp only [Act.put, List.setIfInBounds_toArray, List.set_cons_zero, List.set_cons_succ]
                iterate 12
                  first
                    | (refine plan_pass _ rfl (by rfl) ?_)
                    | (refine plan_take _ _ rfl (.inl ⟨by rfl, fun W hS => by clear hS; go_simp; try with_reducible rfl⟩) ?_)
                  try simp only [Act.put, List.setIfInBounds_toArray, List.set_cons_zero, List.set_cons_succ]
                first
                  | (refine plan_pass _ rfl (by rfl) ?_)
                  | (refine plan_take _ _ rfl (yields_bal (A.pro) (by rfl) _ rfl (w7.heap.size) rfl (fun _ h => h.get 3 rfl)) ?_)
                try simp only [Act.put, List.setIfInBounds_toArray, List.set_cons_zero, List.set_cons_succ]
                iterate 4
                  first
                    | (refine plan_pass _ rfl (by rfl) ?_)
                    | (refine plan_take _ _ rfl (.inl ⟨by rfl, fun W hS => by clear hS; go_simp; try with_reducible rfl⟩) ?_)
                  try simp only [Act.put, List.setIfInBounds_toArray, List.set_cons_zero, List.set_cons_succ]
                first
                  | (refine plan_pass _ rfl (by rfl) ?_)
                  | (refine plan_take _ _ rfl (yields_bal_any (A.pro) (by rfl) _ rfl _ rfl (fun _ h => hsb _ h.below)) ?_)
                try simp only [Act.put, List.setIfInBounds_toArray, List.set_cons_zero, List.set_cons_succ]
                first
                  | (refine plan_pass _ rfl (by rfl) ?_)
                  | (refine plan_take _ _ rfl (yields_bal_nes (A.pro) (hAok.pro) (by rfl) _ _ _ rfl rfl rfl) ?_)
                try simp only [Act.put, List.setIfInBounds_toArray, List.set_cons_zero, List.set_cons_succ]
                iterate 7
                  first
                    | (refine plan_pass _ rfl (by rfl) ?_)
                    | (refine plan_take _ _ rfl (.inl ⟨by rfl, fun W hS => by clear hS; go_simp; try with_reducible rfl⟩) ?_)
                  try simp only [Act.put, List.setIfInBounds_toArray, List.set_cons_zero, List.set_cons_succ]
                first
                  | (refine plan_pass _ rfl (by rfl) ?_)
                  | (refine plan_take _ _ rfl (yields_bal_any (A.pro) (by rfl) _ rfl _ rfl (fun _ h => hsb _ h.below)) ?_)
                try simp only [Act.put, List.setIfInBounds_toArray, List.set_cons_zero, List.set_cons_succ]
                first
                  | (refine plan_pass _ rfl (by rfl) ?_)
                  | (refine plan_take _ _ rfl (yields_bal (a.pro) (by rfl) _ rfl (w3.heap.size) rfl (fun _ h => h.get 0 rfl)) ?_)
                try simp only [Act.put, List.setIfInBounds_toArray, List.set_cons_zero, List.set_cons_succ]
                first
                  | (refine plan_run _ rfl (fun K hK => ?_); go_simp; refine hK.out _ _ hS ?_; clear hK K)
                  | (refine plan_run _ rfl (fun K hK => ?_); go_simp; refine (l3 _).mono ?_; rintro e x3 ⟨rfl, hq⟩; replace hS := hS.later hq; refine hK.out _ _ hS ?_; clear hK K hq)
                iterate 5
                  first
                    | (refine plan_pass _ rfl (by rfl) ?_)
                    | (refine plan_take _ _ rfl (.inl ⟨by rfl, fun W hS => by clear hS; go_simp; try with_reducible rfl⟩) ?_)
                  try simp only [Act.put, List.setIfInBounds_toArray, List.set_cons_zero, List.set_cons_succ]
                refine plan_done ?_
                go_wp2
                go_roundw
                case rel => exact ⟨n + 1, _, by omega, by go_num, hS.get 6 rfl, hAok, hinv.out, hS.below⟩
                case measure => simp [intOf]; omega
            · have hAa := hR.same hE0
              clear hR
              subst hAa
              have hEI : (E : Int) ≠ 0 := by omega
              have hEb : ((E : Int) == 0) = false := by rw [beq_eq_false_iff_ne]; exact hEI
              have hEn : ((E : Int) != 0) = true := by rw [bne_iff_ne]; exact hEI
              have hEd : decide ((E : Int) = 0) = false := decide_eq_false hEI
              cases hL : lessB s.b A.pro
              all_goals
                rw [hL] at l3
                clear hL
                cases hh : hasA A
                all_goals
                  replace hh : Hid _ := hh
                  have hplt := hA.lt
                  have hk := promised_any p A w6 hA
                  go_wp2_with fail
                  refine hk.mono ?_
                  rintro e w7 ⟨rfl, hq⟩
                  replace hE := hE.later hq
                  replace hA := hA.later hq
                  have hlt7 := hA.lt
                  clear hk hq
                  obtain ⟨w8, hw8, hB, hq⟩ := new_var w7 29 (balC bal0) (balC A.pro)
                  replace hE := (hE.later hq).add hB
                  replace hA := hA.later hq
                  have hk := accepted_any p A w8 hA hAok
                  rw [hh.out] at hk
                  go_wp2_with (first
                    | (refine alloc_bal (by rfl) rfl ?_)
                    | (refine store_bal A.pro bal0 (by rfl) _ _ rfl w7.heap.size rfl rfl ?hg ?_; (case hg => exact Has.new _ _ _); rw [hw8]))
                  refine hk.mono ?_
                  rintro e w9 ⟨rfl, hq'⟩
                  replace hE := hE.later hq'
                  replace hA := hA.later hq'
                  clear hk hq hq' hB hw8
                  obtain ⟨v1, hv1, hL, hM, v2, hv2, hL2, hM2, hq⟩ := two_filled w9 A.acc A.inc
                  replace hE := ((hE.later hq).add hL2).add hM2
                  replace hA := hA.later hq
                  clear hq hL2 hM2
                  have hS := (hE.add hA).drew
                  go_wp2_with (first
                    | (refine alloc_bal (by rfl) rfl ?_)
                    | (refine alloc_inc0 (by rfl) rfl ?_; rw [alloc_sz, hv1])
                    | (refine store_bal A.acc bal0 (by rfl) _ _ rfl w9.heap.size rfl rfl ?hg ?_; (case hg => exact hL))
                    | (refine store_inc A.inc inc0 (by rfl) _ _ rfl (w9.heap.size + 1) rfl rfl ?hg ?_; (case hg => exact hM); rw [hv2]))
                  clear hL hM hv1 hv2 hE hA
                  refine wp_region_plan (fun W => Env w W _) (Plan.of [(0, true), (1, true), (2, false), (3, true), (4, true), (5, true), (6, true), (7, true), (8, false), (9, true), (10, true), (11, true), (12, true), (13, true), (14, true), (15, true), (16, true), (17, true), (18, true), (19, true), (20, true), (21, true), (22, true), (23, true), (24, true), (25, true), (26, true), (27, true), (28, true), (29, true), (30, true), (31, true), (32, true), (33, true), (34, true), (35, true), (36, true), (37, true), (38, true), (39, true), (40, true), (41, true), (42, true), (43, true), (44, true), (45, true), (46, true), (47, true), (48, true), (49, true), (50, true), (51, true), (52, true), (53, true), (54, true), (55, false), (56, true), (57, true), (58, true), (59, true), (60, true)] .done) (by kernel_rfl) (by kernel_rfl) (by kernel_rfl) (by kernel_rfl) hS ?_
                  first
                    | (refine plan_pass _ rfl (by rfl) ?_)
                    | (refine plan_take _ _ rfl (yields_bal (A.pro) (by rfl) _ rfl (w7.heap.size) rfl (fun _ h => h.get 3 rfl)) ?_)
                  try simp only [Act.put, List.setIfInBounds_toArray, List.set_cons_zero, List.set_cons_succ]
                  first
                    | (refine plan_pass _ rfl (by rfl) ?_)
                    | (refine plan_take _ _ rfl (yields_bal (A.pro) (by rfl) _ rfl (w3.heap.size) rfl (fun _ h => h.get 0 rfl)) ?_)
                  try simp only [Act.put, List.setIfInBounds_toArray, List.set_cons_zero, List.set_cons_succ]
                  first
                    | (refine plan_run _ rfl (fun K hK => ?_); go_simp; refine hK.out _ _ hS ?_; clear hK K)
                    | (refine plan_run _ rfl (fun K hK => ?_); go_simp; refine (l1 _).mono ?_; rintro e x1 ⟨rfl, hq⟩; replace hS := hS.later hq; refine hK.out _ _ hS ?_; clear hK K hq)
                  iterate 3
                    first
                      | (refine plan_pass _ rfl (by rfl) ?_)
                      | (refine plan_take _ _ rfl (.inl ⟨by rfl, fun W hS => by clear hS; go_simp; try with_reducible rfl⟩) ?_)
                    try simp only [Act.put, List.setIfInBounds_toArray, List.set_cons_zero, List.set_cons_succ]
                  first
                    | (refine plan_pass _ rfl (by rfl) ?_)
                    | (refine plan_take _ _ rfl (yields_bal (A.pro) (by rfl) _ rfl (w7.heap.size) rfl (fun _ h => h.get 3 rfl)) ?_)
                  try simp only [Act.put, List.setIfInBounds_toArray, List.set_cons_zero, List.set_cons_succ]
                  first
                    | (refine plan_pass _ rfl (by rfl) ?_)
                    | (refine plan_take _ _ rfl (yields_bal (A.acc) (by rfl) _ rfl (w9.heap.size) rfl (fun _ h => h.get 4 rfl)) ?_)
                  try simp only [Act.put, List.setIfInBounds_toArray, List.set_cons_zero, List.set_cons_succ]
                  first
                    | (refine plan_run _ rfl (fun K hK => ?_); go_simp; refine hK.out _ _ hS ?_; clear hK K)
                    | (refine plan_run _ rfl (fun K hK => ?_); go_simp; refine (l2 _).mono ?_; rintro e x2 ⟨rfl, hq⟩; replace hS := hS.later hq; refine hK.out _ _ hS ?_; clear hK K hq)
                  iterate 6
                    first
                      | (refine plan_pass _ rfl (by rfl) ?_)
                      | (refine plan_take _ _ rfl (.inl ⟨by rfl, fun W hS => by clear hS; go_simp; try with_reducible rfl⟩) ?_)
                    try simp only [Act.put, List.setIfInBounds_toArray, List.set_cons_zero, List.set_cons_succ]
                  first
                    | (refine plan_pass _ rfl (by rfl) ?_)
                    | (refine plan_take _ _ rfl (yields_bal (A.pro) (by rfl) _ rfl (w7.heap.size) rfl (fun _ h => h.get 3 rfl)) ?_)
                  try simp only [Act.put, List.setIfInBounds_toArray, List.set_cons_zero, List.set_cons_succ]
                  first
                    | (refine plan_pass _ rfl (by rfl) ?_)
                    | (refine plan_take _ _ rfl (yields_bal (A.pro) (by rfl) _ rfl (w3.heap.size) rfl (fun _ h => h.get 0 rfl)) ?_)
                  try simp only [Act.put, List.setIfInBounds_toArray, List.set_cons_zero, List.set_cons_succ]
                  first
                    | (refine plan_pass _ rfl (by rfl) ?_)
                    | (refine plan_take _ _ rfl (yields_bal_nes (A.pro) (hAok.pro) (by rfl) _ _ _ rfl rfl rfl) ?_)
                  try simp only [Act.put, List.setIfInBounds_toArray, List.set_cons_zero, List.set_cons_succ]
                  iterate 1
                    first
                      | (refine plan_pass _ rfl (by rfl) ?_)
                      | (refine plan_take _ _ rfl (.inl ⟨by rfl, fun W hS => by clear hS; go_simp; try with_reducible rfl⟩) ?_)
                    try simp only [Act.put, List.setIfInBounds_toArray, List.set_cons_zero, List.set_cons_succ]
                  first
                    | (refine plan_pass _ rfl (by rfl) ?_)
                    | (refine plan_take _ _ rfl (yields_bal (A.acc) (by rfl) _ rfl (w9.heap.size) rfl (fun _ h => h.get 4 rfl)) ?_)
                  try simp only [Act.put, List.setIfInBounds_toArray, List.set_cons_zero, List.set_cons_succ]
                  first
                    | (refine plan_pass _ rfl (by rfl) ?_)
                    | (refine plan_take _ _ rfl (yields_bal (A.acc) (by rfl) _ rfl (w5.heap.size) rfl (fun _ h => h.get 1 rfl)) ?_)
                  try simp only [Act.put, List.setIfInBounds_toArray, List.set_cons_zero, List.set_cons_succ]
                  first
                    | (refine plan_pass _ rfl (by rfl) ?_)
                    | (refine plan_take _ _ rfl (yields_bal_nes (A.acc) (hAok.acc) (by rfl) _ _ _ rfl rfl rfl) ?_)
                  try simp only [Act.put, List.setIfInBounds_toArray, List.set_cons_zero, List.set_cons_succ]
                  iterate 2
                    first
                      | (refine plan_pass _ rfl (by rfl) ?_)
                      | (refine plan_take _ _ rfl (.inl ⟨by rfl, fun W hS => by clear hS; go_simp; try with_reducible rfl⟩) ?_)
                    try simp only [Act.put, List.setIfInBounds_toArray, List.set_cons_zero, List.set_cons_succ]
                  first
                    | (refine plan_pass _ rfl (by rfl) ?_)
                    | (refine plan_take _ _ rfl (yields_inc (A.inc) (by rfl) _ rfl (w5.heap.size + 1) rfl (fun _ h => h.get 2 rfl)) ?_)
                  try simp only [Act.put, List.setIfInBounds_toArray, List.set_cons_zero, List.set_cons_succ]
                  first
                    | (refine plan_pass _ rfl (by rfl) ?_)
                    | (refine plan_take _ _ rfl (yields_inc (A.inc) (by rfl) _ rfl (w9.heap.size + 1) rfl (fun _ h => h.get 5 rfl)) ?_)
                  try simp only [Act.put, List.setIfInBounds_toArray, List.set_cons_zero, List.set_cons_succ]
                  first
                    | (refine plan_pass _ rfl (by rfl) ?_)
                    | (refine plan_take _ _ rfl (yields_inc_nes (A.inc) (hAok.inc) (by rfl) _ _ _ rfl rfl rfl) ?_)
                  try simp only [Act.put, List.setIfInBounds_toArray, List.set_cons_zero, List.set_cons_succ]
                  iterate 12
                    first
                      | (refine plan_pass _ rfl (by rfl) ?_)
                      | (refine plan_take _ _ rfl (.inl ⟨by rfl, fun W hS => by clear hS; go_simp; try with_reducible rfl⟩) ?_)
                    try simp only [Act.put, List.setIfInBounds_toArray, List.set_cons_zero, List.set_cons_succ]
                  first
                    | (refine plan_pass _ rfl (by rfl) ?_)
                    | (refine plan_take _ _ rfl (yields_bal (A.pro) (by rfl) _ rfl (w7.heap.size) rfl (fun _ h => h.get 3 rfl)) ?_)
                  try simp only [Act.put, List.setIfInBounds_toArray, List.set_cons_zero, List.set_cons_succ]
                  iterate 4
                    first
                      | (refine plan_pass _ rfl (by rfl) ?_)
                      | (refine plan_take _ _ rfl (.inl ⟨by rfl, fun W hS => by clear hS; go_simp; try with_reducible rfl⟩) ?_)
                    try simp only [Act.put, List.setIfInBounds_toArray, List.set_cons_zero, List.set_cons_succ]
                  first
                    | (refine plan_pass _ rfl (by rfl) ?_)
                    | (refine plan_take _ _ rfl (yields_bal_any (s.b) (by rfl) _ rfl _ rfl (fun _ h => hsb _ h.below)) ?_)
                  try simp only [Act.put, List.setIfInBounds_toArray, List.set_cons_zero, List.set_cons_succ]
                  first
                    | (refine plan_pass _ rfl (by rfl) ?_)
                    | (refine plan_take _ _ rfl (yields_bal_nes (s.b) (hs.b) (by rfl) _ _ _ rfl rfl rfl) ?_)
                  try simp only [Act.put, List.setIfInBounds_toArray, List.set_cons_zero, List.set_cons_succ]
                  iterate 7
                    first
                      | (refine plan_pass _ rfl (by rfl) ?_)
                      | (refine plan_take _ _ rfl (.inl ⟨by rfl, fun W hS => by clear hS; go_simp; try with_reducible rfl⟩) ?_)
                    try simp only [Act.put, List.setIfInBounds_toArray, List.set_cons_zero, List.set_cons_succ]
                  first
                    | (refine plan_pass _ rfl (by rfl) ?_)
                    | (refine plan_take _ _ rfl (yields_bal_any (s.b) (by rfl) _ rfl _ rfl (fun _ h => hsb _ h.below)) ?_)
                  try simp only [Act.put, List.setIfInBounds_toArray, List.set_cons_zero, List.set_cons_succ]
                  first
                    | (refine plan_pass _ rfl (by rfl) ?_)
                    | (refine plan_take _ _ rfl (yields_bal (A.pro) (by rfl) _ rfl (w3.heap.size) rfl (fun _ h => h.get 0 rfl)) ?_)
                  try simp only [Act.put, List.setIfInBounds_toArray, List.set_cons_zero, List.set_cons_succ]
                  first
                    | (refine plan_run _ rfl (fun K hK => ?_); go_simp; refine hK.out _ _ hS ?_; clear hK K)
                    | (refine plan_run _ rfl (fun K hK => ?_); go_simp; refine (l3 _).mono ?_; rintro e x3 ⟨rfl, hq⟩; replace hS := hS.later hq; refine hK.out _ _ hS ?_; clear hK K hq)
                  iterate 5
                    first
                      | (refine plan_pass _ rfl (by rfl) ?_)
                      | (refine plan_take _ _ rfl (.inl ⟨by rfl, fun W hS => by clear hS; go_simp; try with_reducible rfl⟩) ?_)
                    try simp only [Act.put, List.setIfInBounds_toArray, List.set_cons_zero, List.set_cons_succ]
                  refine plan_done ?_
                  go_wp2
                  go_roundw
                  case rel => exact ⟨n + 1, _, by omega, by go_num, hS.get 6 rfl, hAok, hinv.out, hS.below⟩
                  case measure => simp [intOf]; omega
          | false =>
            have hk := prepare_any p a sb v2 hA ha hs.b
            have hR := rise_prep a sb hi
            have hAok := prepM_ok (b := sb) ha hs.b
            obtain ⟨E, hEe⟩ : ∃ E, errP a.pro sb = E := ⟨_, rfl⟩
            obtain ⟨A, hAe⟩ : ∃ A, prepM a sb = A := ⟨_, rfl⟩
            rw [hEe, hAe] at hk
            rw [hEe, hAe] at hR
            rw [hAe] at hAok
            clear hEe hAe
            have y1 := hsb _ hE.below
            go_wp2_with (first
              | (refine alloc_bal (by rfl) rfl ?_)
              | (refine alloc_inc0 (by rfl) rfl ?_; rw [alloc_sz, hv1])
              | (refine store_bal a.acc bal0 (by rfl) _ _ rfl w5.heap.size rfl rfl ?hg ?_; (case hg => exact hL))
              | (refine store_inc a.inc inc0 (by rfl) _ _ rfl (w5.heap.size + 1) rfl rfl ?hg ?_; (case hg => exact hM); rw [hv2])
              | (refine wpList_load_any (by rfl) 29 _ rfl _ rfl (balC sb).toList _ ?hg Try.underlying29 rfl (bal_size sb) ?_; (case hg => exact y1)))
            refine hk.mono ?_
            rintro e w6 ⟨rfl, hA6, hq⟩
            replace hE := hE.but hq hp hP
            replace hA := hA6
            clear hk hq hA6 hL hM hv1 hv2 z0 y1 hi hsa hsx
            obtain ⟨s, hse⟩ : ∃ s : StepV, s = ⟨false, sb, sx⟩ := ⟨_, rfl⟩
            obtain rfl : sb = s.b := by rw [hse]
            clear hse
            have hinv : Hid _ := hR.inv
            have l1 := fun W => less_any A.pro a.pro W hAok.pro ha.pro
            rw [hR.up] at l1
            have l2 := fun W => less_any A.pro A.acc W hAok.pro hAok.acc
            rw [hR.inv] at l2
            have l3 := fun W => less_any s.b a.pro W hs.b ha.pro
            by_cases hE0 : E = 0
            · have hAp := hR.pro hE0
              have hL : lessB s.b a.pro = false := by
                rw [← Bool.not_eq_true]
                exact fun h => hR.low h hE0
              rw [hL] at l3
              clear hL hR
              subst hE0
              rw [← hAp] at l3 hsb
              clear hAp
              cases hh : hasA A
              all_goals
                replace hh : Hid _ := hh
                have hplt := hA.lt
                have hk := promised_any p A w6 hA
                go_wp2_with fail
                refine hk.mono ?_
                rintro e w7 ⟨rfl, hq⟩
                replace hE := hE.later hq
                replace hA := hA.later hq
                have hlt7 := hA.lt
                clear hk hq
                obtain ⟨w8, hw8, hB, hq⟩ := new_var w7 29 (balC bal0) (balC A.pro)
                replace hE := (hE.later hq).add hB
                replace hA := hA.later hq
                have hk := accepted_any p A w8 hA hAok
                rw [hh.out] at hk
                go_wp2_with (first
                  | (refine alloc_bal (by rfl) rfl ?_)
                  | (refine store_bal A.pro bal0 (by rfl) _ _ rfl w7.heap.size rfl rfl ?hg ?_; (case hg => exact Has.new _ _ _); rw [hw8]))
                refine hk.mono ?_
                rintro e w9 ⟨rfl, hq'⟩
                replace hE := hE.later hq'
                replace hA := hA.later hq'
                clear hk hq hq' hB hw8
                obtain ⟨v1, hv1, hL, hM, v2, hv2, hL2, hM2, hq⟩ := two_filled w9 A.acc A.inc
                replace hE := ((hE.later hq).add hL2).add hM2
                replace hA := hA.later hq
                clear hq hL2 hM2
                have hS := (hE.add hA).drew
                go_wp2_with (first
                  | (refine alloc_bal (by rfl) rfl ?_)
                  | (refine alloc_inc0 (by rfl) rfl ?_; rw [alloc_sz, hv1])
                  | (refine store_bal A.acc bal0 (by rfl) _ _ rfl w9.heap.size rfl rfl ?hg ?_; (case hg => exact hL))
                  | (refine store_inc A.inc inc0 (by rfl) _ _ rfl (w9.heap.size + 1) rfl rfl ?hg ?_; (case hg => exact hM); rw [hv2]))
                clear hL hM hv1 hv2 hE hA
                refine wp_region_plan (fun W => Env w W _) (Plan.of [(0, true), (1, true), (2, false), (3, true), (4, true), (5, true), (6, true), (7, true), (8, false), (9, true), (10, true), (11, true), (12, true), (13, true), (14, true), (15, true), (16, true), (17, true), (18, true), (19, true), (20, true), (21, true), (22, true), (23, true), (24, true), (25, true), (26, true), (27, true), (28, true), (29, true), (30, true), (31, true), (32, true), (33, true), (34, true), (35, true), (36, true), (37, true), (38, true), (39, true), (40, true), (41, true), (42, true), (43, true), (44, true), (45, true), (46, true), (47, true), (48, true), (49, true), (50, true), (51, true), (52, true), (53, true), (54, true), (55, false), (56, true), (57, true), (58, true), (59, true), (60, true)] .done) (by kernel_rfl) (by kernel_rfl) (by kernel_rfl) (by kernel_rfl) hS ?_
                first
                  | (refine plan_pass _ rfl (by rfl) ?_)
                  | (refine plan_take _ _ rfl (yields_bal (A.pro) (by rfl) _ rfl (w7.heap.size) rfl (fun _ h => h.get 3 rfl)) ?_)
                try simp only [Act.put, List.setIfInBounds_toArray, List.set_cons_zero, List.set_cons_succ]
                first
                  | (refine plan_pass _ rfl (by rfl) ?_)
                  | (refine plan_take _ _ rfl (yields_bal (a.pro) (by rfl) _ rfl (w3.heap.size) rfl (fun _ h => h.get 0 rfl)) ?_)
                try simp only [Act.put, List.setIfInBounds_toArray, List.set_cons_zero, List.set_cons_succ]
                first
                  | (refine plan_run _ rfl (fun K hK => ?_); go_simp; refine hK.out _ _ hS ?_; clear hK K)
                  | (refine plan_run _ rfl (fun K hK => ?_); go_simp; refine (l1 _).mono ?_; rintro e x1 ⟨rfl, hq⟩; replace hS := hS.later hq; refine hK.out _ _ hS ?_; clear hK K hq)
                iterate 3
                  first
                    | (refine plan_pass _ rfl (by rfl) ?_)
                    | (refine plan_take _ _ rfl (.inl ⟨by rfl, fun W hS => by clear hS; go_simp; try with_reducible rfl⟩) ?_)
                  try simp only [Act.put, List.setIfInBounds_toArray, List.set_cons_zero, List.set_cons_succ]
                first
                  | (refine plan_pass _ rfl (by rfl) ?_)
                  | (refine plan_take _ _ rfl (yields_bal (A.pro) (by rfl) _ rfl (w7.heap.size) rfl (fun _ h => h.get 3 rfl)) ?_)
                try simp only [Act.put, List.setIfInBounds_toArray, List.set_cons_zero, List.set_cons_succ]
                first
                  | (refine plan_pass _ rfl (by rfl) ?_)
                  | (refine plan_take _ _ rfl (yields_bal (A.acc) (by rfl) _ rfl (w9.heap.size) rfl (fun _ h => h.get 4 rfl)) ?_)
                try simp only [Act.put, List.setIfInBounds_toArray, List.set_cons_zero, List.set_cons_succ]
                first
                  | (refine plan_run _ rfl (fun K hK => ?_); go_simp; refine hK.out _ _ hS ?_; clear hK K)
                  | (refine plan_run _ rfl (fun K hK => ?_); go_simp; refine (l2 _).mono ?_; rintro e x2 ⟨rfl, hq⟩; replace hS := hS.later hq; refine hK.out _ _ hS ?_; clear hK K hq)
                iterate 6
                  first
                    | (refine plan_pass _ rfl (by rfl) ?_)
                    | (refine plan_take _ _ rfl (.inl ⟨by rfl, fun W hS => by clear hS; go_simp; try with_reducible rfl⟩) ?_)
                  try simp only [Act.put, List.setIfInBounds_toArray, List.set_cons_zero, List.set_cons_succ]
                first
                  | (refine plan_pass _ rfl (by rfl) ?_)
                  | (refine plan_take _ _ rfl (yields_bal (A.pro) (by rfl) _ rfl (w7.heap.size) rfl (fun _ h => h.get 3 rfl)) ?_)
                try simp only [Act.put, List.setIfInBounds_toArray, List.set_cons_zero, List.set_cons_succ]
                first
                  | (refine plan_pass _ rfl (by rfl) ?_)
                  | (refine plan_take _ _ rfl (yields_bal (a.pro) (by rfl) _ rfl (w3.heap.size) rfl (fun _ h => h.get 0 rfl)) ?_)
                try simp only [Act.put, List.setIfInBounds_toArray, List.set_cons_zero, List.set_cons_succ]
                first
                  | (refine plan_pass _ rfl (by rfl) ?_)
                  | (refine plan_take _ _ rfl (yields_bal_nes (a.pro) (ha.pro) (by rfl) _ _ _ rfl rfl rfl) ?_)
                try simp only [Act.put, List.setIfInBounds_toArray, List.set_cons_zero, List.set_cons_succ]
                iterate 1
                  first
                    | (refine plan_pass _ rfl (by rfl) ?_)
                    | (refine plan_take _ _ rfl (.inl ⟨by rfl, fun W hS => by clear hS; go_simp; try with_reducible rfl⟩) ?_)
                  try simp only [Act.put, List.setIfInBounds_toArray, List.set_cons_zero, List.set_cons_succ]
                first
                  | (refine plan_pass _ rfl (by rfl) ?_)
                  | (refine plan_take _ _ rfl (yields_bal (A.acc) (by rfl) _ rfl (w9.heap.size) rfl (fun _ h => h.get 4 rfl)) ?_)
                try simp only [Act.put, List.setIfInBounds_toArray, List.set_cons_zero, List.set_cons_succ]
                first
                  | (refine plan_pass _ rfl (by rfl) ?_)
                  | (refine plan_take _ _ rfl (yields_bal (a.acc) (by rfl) _ rfl (w5.heap.size) rfl (fun _ h => h.get 1 rfl)) ?_)
                try simp only [Act.put, List.setIfInBounds_toArray, List.set_cons_zero, List.set_cons_succ]
                first
                  | (refine plan_pass _ rfl (by rfl) ?_)
                  | (refine plan_take _ _ rfl (yields_bal_nes (a.acc) (ha.acc) (by rfl) _ _ _ rfl rfl rfl) ?_)
                try simp only [Act.put, List.setIfInBounds_toArray, List.set_cons_zero, List.set_cons_succ]
                iterate 2
                  first
                    | (refine plan_pass _ rfl (by rfl) ?_)
                    | (refine plan_take _ _ rfl (.inl ⟨by rfl, fun W hS => by clear hS; go_simp; try with_reducible rfl⟩) ?_)
                  try simp only [Act.put, List.setIfInBounds_toArray, List.set_cons_zero, List.set_cons_succ]
                first
                  | (refine plan_pass _ rfl (by rfl) ?_)
                  | (refine plan_take _ _ rfl (yields_inc (a.inc) (by rfl) _ rfl (w5.heap.size + 1) rfl (fun _ h => h.get 2 rfl)) ?_)
                try simp only [Act.put, List.setIfInBounds_toArray, List.set_cons_zero, List.set_cons_succ]
                first
                  | (refine plan_pass _ rfl (by rfl) ?_)
                  | (refine plan_take _ _ rfl (yields_inc (A.inc) (by rfl) _ rfl (w9.heap.size + 1) rfl (fun _ h => h.get 5 rfl)) ?_)
                try simp only [Act.put, List.setIfInBounds_toArray, List.set_cons_zero, List.set_cons_succ]
                first
                  | (refine plan_pass _ rfl (by rfl) ?_)
                  | (refine plan_take _ _ rfl (yields_inc_nes (a.inc) (ha.inc) (by rfl) _ _ _ rfl rfl rfl) ?_)
                try simp only [Act.put, List.setIfInBounds_toArray, List.set_cons_zero, List.set_cons_succ]
                iterate 12
                  first
                    | (refine plan_pass _ rfl (by rfl) ?_)
                    | (refine plan_take _ _ rfl (.inl ⟨by rfl, fun W hS => by clear hS; go_simp; try with_reducible rfl⟩) ?_)
                  try simp only [Act.put, List.setIfInBounds_toArray, List.set_cons_zero, List.set_cons_succ]
                first
                  | (refine plan_pass _ rfl (by rfl) ?_)
                  | (refine plan_take _ _ rfl (yields_bal (A.pro) (by rfl) _ rfl (w7.heap.size) rfl (fun _ h => h.get 3 rfl)) ?_)
                try simp only [Act.put, List.setIfInBounds_toArray, List.set_cons_zero, List.set_cons_succ]
                iterate 4
                  first
                    | (refine plan_pass _ rfl (by rfl) ?_)
                    | (refine plan_take _ _ rfl (.inl ⟨by rfl, fun W hS => by clear hS; go_simp; try with_reducible rfl⟩) ?_)
                  try simp only [Act.put, List.setIfInBounds_toArray, List.set_cons_zero, List.set_cons_succ]
                first
                  | (refine plan_pass _ rfl (by rfl) ?_)
                  | (refine plan_take _ _ rfl (yields_bal_any (A.pro) (by rfl) _ rfl _ rfl (fun _ h => hsb _ h.below)) ?_)
                try simp only [Act.put, List.setIfInBounds_toArray, List.set_cons_zero, List.set_cons_succ]
                first
                  | (refine plan_pass _ rfl (by rfl) ?_)
                  | (refine plan_take _ _ rfl (yields_bal_nes (A.pro) (hAok.pro) (by rfl) _ _ _ rfl rfl rfl) ?_)
                try simp only [Act.put, List.setIfInBounds_toArray, List.set_cons_zero, List.set_cons_succ]
                iterate 7
                  first
                    | (refine plan_pass _ rfl (by rfl) ?_)
                    | (refine plan_take _ _ rfl (.inl ⟨by rfl, fun W hS => by clear hS; go_simp; try with_reducible rfl⟩) ?_)
                  try simp only [Act.put, List.setIfInBounds_toArray, List.set_cons_zero, List.set_cons_succ]
                first
                  | (refine plan_pass _ rfl (by rfl) ?_)
                  | (refine plan_take _ _ rfl (yields_bal_any (A.pro) (by rfl) _ rfl _ rfl (fun _ h => hsb _ h.below)) ?_)
                try simp only [Act.put, List.setIfInBounds_toArray, List.set_cons_zero, List.set_cons_succ]
                first
                  | (refine plan_pass _ rfl (by rfl) ?_)
                  | (refine plan_take _ _ rfl (yields_bal (a.pro) (by rfl) _ rfl (w3.heap.size) rfl (fun _ h => h.get 0 rfl)) ?_)
                try simp only [Act.put, List.setIfInBounds_toArray, List.set_cons_zero, List.set_cons_succ]
                first
                  | (refine plan_run _ rfl (fun K hK => ?_); go_simp; refine hK.out _ _ hS ?_; clear hK K)
                  | (refine plan_run _ rfl (fun K hK => ?_); go_simp; refine (l3 _).mono ?_; rintro e x3 ⟨rfl, hq⟩; replace hS := hS.later hq; refine hK.out _ _ hS ?_; clear hK K hq)
                iterate 5
                  first
                    | (refine plan_pass _ rfl (by rfl) ?_)
                    | (refine plan_take _ _ rfl (.inl ⟨by rfl, fun W hS => by clear hS; go_simp; try with_reducible rfl⟩) ?_)
                  try simp only [Act.put, List.setIfInBounds_toArray, List.set_cons_zero, List.set_cons_succ]
                refine plan_done ?_
                go_wp2
                go_roundw
                case rel => exact ⟨n + 1, _, by omega, by go_num, hS.get 6 rfl, hAok, hinv.out, hS.below⟩
                case measure => simp [intOf]; omega
            · have hAa := hR.same hE0
              clear hR
              subst hAa
              have hEI : (E : Int) ≠ 0 := by omega
              have hEb : ((E : Int) == 0) = false := by rw [beq_eq_false_iff_ne]; exact hEI
              have hEn : ((E : Int) != 0) = true := by rw [bne_iff_ne]; exact hEI
              have hEd : decide ((E : Int) = 0) = false := decide_eq_false hEI
              cases hL : lessB s.b A.pro
              all_goals
                rw [hL] at l3
                clear hL
                cases hh : hasA A
                all_goals
                  replace hh : Hid _ := hh
                  have hplt := hA.lt
                  have hk := promised_any p A w6 hA
                  go_wp2_with fail
                  refine hk.mono ?_
                  rintro e w7 ⟨rfl, hq⟩
                  replace hE := hE.later hq
                  replace hA := hA.later hq
                  have hlt7 := hA.lt
                  clear hk hq
                  obtain ⟨w8, hw8, hB, hq⟩ := new_var w7 29 (balC bal0) (balC A.pro)
                  replace hE := (hE.later hq).add hB
                  replace hA := hA.later hq
                  have hk := accepted_any p A w8 hA hAok
                  rw [hh.out] at hk
                  go_wp2_with (first
                    | (refine alloc_bal (by rfl) rfl ?_)
                    | (refine store_bal A.pro bal0 (by rfl) _ _ rfl w7.heap.size rfl rfl ?hg ?_; (case hg => exact Has.new _ _ _); rw [hw8]))
                  refine hk.mono ?_
                  rintro e w9 ⟨rfl, hq'⟩
                  replace hE := hE.later hq'
                  replace hA := hA.later hq'
                  clear hk hq hq' hB hw8
                  obtain ⟨v1, hv1, hL, hM, v2, hv2, hL2, hM2, hq⟩ := two_filled w9 A.acc A.inc
                  replace hE := ((hE.later hq).add hL2).add hM2
                  replace hA := hA.later hq
                  clear hq hL2 hM2
                  have hS := (hE.add hA).drew
                  go_wp2_with (first
                    | (refine alloc_bal (by rfl) rfl ?_)
                    | (refine alloc_inc0 (by rfl) rfl ?_; rw [alloc_sz, hv1])
                    | (refine store_bal A.acc bal0 (by rfl) _ _ rfl w9.heap.size rfl rfl ?hg ?_; (case hg => exact hL))
                    | (refine store_inc A.inc inc0 (by rfl) _ _ rfl (w9.heap.size + 1) rfl rfl ?hg ?_; (case hg => exact hM); rw [hv2]))
                  clear hL hM hv1 hv2 hE hA
                  refine wp_region_plan (fun W => Env w W _) (Plan.of [(0, true), (1, true), (2, false), (3, true), (4, true), (5, true), (6, true), (7, true), (8, false), (9, true), (10, true), (11, true), (12, true), (13, true), (14, true), (15, true), (16, true), (17, true), (18, true), (19, true), (20, true), (21, true), (22, true), (23, true), (24, true), (25, true), (26, true), (27, true), (28, true), (29, true), (30, true), (31, true), (32, true), (33, true), (34, true), (35, true), (36, true), (37, true), (38, true), (39, true), (40, true), (41, true), (42, true), (43, true), (44, true), (45, true), (46, true), (47, true), (48, true), (49, true), (50, true), (51, true), (52, true), (53, true), (54, true), (55, false), (56, true), (57, true), (58, true), (59, true), (60, true)] .done) (by kernel_rfl) (by kernel_rfl) (by kernel_rfl) (by kernel_rfl) hS ?_
                  first
                    | (refine plan_pass _ rfl (by rfl) ?_)
                    | (refine plan_take _ _ rfl (yields_bal (A.pro) (by rfl) _ rfl (w7.heap.size) rfl (fun _ h => h.get 3 rfl)) ?_)
                  try simp only [Act.put, List.setIfInBounds_toArray, List.set_cons_zero, List.set_cons_succ]
                  first
                    | (refine plan_pass _ rfl (by rfl) ?_)
                    | (refine plan_take _ _ rfl (yields_bal (A.pro) (by rfl) _ rfl (w3.heap.size) rfl (fun _ h => h.get 0 rfl)) ?_)
                  try simp only [Act.put, List.setIfInBounds_toArray, List.set_cons_zero, List.set_cons_succ]
                  first
                    | (refine plan_run _ rfl (fun K hK => ?_); go_simp; refine hK.out _ _ hS ?_; clear hK K)
                    | (refine plan_run _ rfl (fun K hK => ?_); go_simp; refine (l1 _).mono ?_; rintro e x1 ⟨rfl, hq⟩; replace hS := hS.later hq; refine hK.out _ _ hS ?_; clear hK K hq)
                  iterate 3
                    first
                      | (refine plan_pass _ rfl (by rfl) ?_)
                      | (refine plan_take _ _ rfl (.inl ⟨by rfl, fun W hS => by clear hS; go_simp; try with_reducible rfl⟩) ?_)
                    try simp only [Act.put, List.setIfInBounds_toArray, List.set_cons_zero, List.set_cons_succ]
                  first
                    | (refine plan_pass _ rfl (by rfl) ?_)
                    | (refine plan_take _ _ rfl (yields_bal (A.pro) (by rfl) _ rfl (w7.heap.size) rfl (fun _ h => h.get 3 rfl)) ?_)
                  try simp only [Act.put, List.setIfInBounds_toArray, List.set_cons_zero, List.set_cons_succ]
                  first
                    | (refine plan_pass _ rfl (by rfl) ?_)
                    | (refine plan_take _ _ rfl (yields_bal (A.acc) (by rfl) _ rfl (w9.heap.size) rfl (fun _ h => h.get 4 rfl)) ?_)
                  try simp only [Act.put, List.setIfInBounds_toArray, List.set_cons_zero, List.set_cons_succ]
                  first
                    | (refine plan_run _ rfl (fun K hK => ?_); go_simp; refine hK.out _ _ hS ?_; clear hK K)
                    | (refine plan_run _ rfl (fun K hK => ?_); go_simp; refine (l2 _).mono ?_; rintro e x2 ⟨rfl, hq⟩; replace hS := hS.later hq; refine hK.out _ _ hS ?_; clear hK K hq)
                  iterate 6
                    first
                      | (refine plan_pass _ rfl (by rfl) ?_)
                      | (refine plan_take _ _ rfl (.inl ⟨by rfl, fun W hS => by clear hS; go_simp; try with_reducible rfl⟩) ?_)
                    try simp only [Act.put, List.setIfInBounds_toArray, List.set_cons_zero, List.set_cons_succ]
                  first
                    | (refine plan_pass _ rfl (by rfl) ?_)
                    | (refine plan_take _ _ rfl (yields_bal (A.pro) (by rfl) _ rfl (w7.heap.size) rfl (fun _ h => h.get 3 rfl)) ?_)
                  try simp only [Act.put, List.setIfInBounds_toArray, List.set_cons_zero, List.set_cons_succ]
                  first
                    | (refine plan_pass _ rfl (by rfl) ?_)
                    | (refine plan_take _ _ rfl (yields_bal (A.pro) (by rfl) _ rfl (w3.heap.size) rfl (fun _ h => h.get 0 rfl)) ?_)
                  try simp only [Act.put, List.setIfInBounds_toArray, List.set_cons_zero, List.set_cons_succ]
                  first
                    | (refine plan_pass _ rfl (by rfl) ?_)
                    | (refine plan_take _ _ rfl (yields_bal_nes (A.pro) (hAok.pro) (by rfl) _ _ _ rfl rfl rfl) ?_)
                  try simp only [Act.put, List.setIfInBounds_toArray, List.set_cons_zero, List.set_cons_succ]
                  iterate 1
                    first
                      | (refine plan_pass _ rfl (by rfl) ?_)
                      | (refine plan_take _ _ rfl (.inl ⟨by rfl, fun W hS => by clear hS; go_simp; try with_reducible rfl⟩) ?_)
                    try simp only [Act.put, List.setIfInBounds_toArray, List.set_cons_zero, List.set_cons_succ]
                  first
                    | (refine plan_pass _ rfl (by rfl) ?_)
                    | (refine plan_take _ _ rfl (yields_bal (A.acc) (by rfl) _ rfl (w9.heap.size) rfl (fun _ h => h.get 4 rfl)) ?_)
                  try simp only [Act.put, List.setIfInBounds_toArray, List.set_cons_zero, List.set_cons_succ]
                  first
                    | (refine plan_pass _ rfl (by rfl) ?_)
                    | (refine plan_take _ _ rfl (yields_bal (A.acc) (by rfl) _ rfl (w5.heap.size) rfl (fun _ h => h.get 1 rfl)) ?_)
                  try simp only [Act.put, List.setIfInBounds_toArray, List.set_cons_zero, List.set_cons_succ]
                  first
                    | (refine plan_pass _ rfl (by rfl) ?_)
                    | (refine plan_take _ _ rfl (yields_bal_nes (A.acc) (hAok.acc) (by rfl) _ _ _ rfl rfl rfl) ?_)
                  try simp only [Act.put, List.setIfInBounds_toArray, List.set_cons_zero, List.set_cons_succ]
                  iterate 2
                    first
                      | (refine plan_pass _ rfl (by rfl) ?_)
                      | (refine plan_take _ _ rfl (.inl ⟨by rfl, fun W hS => by clear hS; go_simp; try with_reducible rfl⟩) ?_)
                    try simp only [Act.put, List.setIfInBounds_toArray, List.set_cons_zero, List.set_cons_succ]
                  first
                    | (refine plan_pass _ rfl (by rfl) ?_)
                    | (refine plan_take _ _ rfl (yields_inc (A.inc) (by rfl) _ rfl (w5.heap.size + 1) rfl (fun _ h => h.get 2 rfl)) ?_)
                  try simp only [Act.put, List.setIfInBounds_toArray, List.set_cons_zero, List.set_cons_succ]
                  first
                    | (refine plan_pass _ rfl (by rfl) ?_)
                    | (refine plan_take _ _ rfl (yields_inc (A.inc) (by rfl) _ rfl (w9.heap.size + 1) rfl (fun _ h => h.get 5 rfl)) ?_)
                  try simp only [Act.put, List.setIfInBounds_toArray, List.set_cons_zero, List.set_cons_succ]
                  first
                    | (refine plan_pass _ rfl (by rfl) ?_)
                    | (refine plan_take _ _ rfl (yields_inc_nes (A.inc) (hAok.inc) (by rfl) _ _ _ rfl rfl rfl) ?_)
                  try simp only [Act.put, List.setIfInBounds_toArray, List.set_cons_zero, List.set_cons_succ]
                  iterate 12
                    first
                      | (refine plan_pass _ rfl (by rfl) ?_)
                      | (refine plan_take _ _ rfl (.inl ⟨by rfl, fun W hS => by clear hS; go_simp; try with_reducible rfl⟩) ?_)
                    try simp only [Act.put, List.setIfInBounds_toArray, List.set_cons_zero, List.set_cons_succ]
                  first
                    | (refine plan_pass _ rfl (by rfl) ?_)
                    | (refine plan_take _ _ rfl (yields_bal (A.pro) (by rfl) _ rfl (w7.heap.size) rfl (fun _ h => h.get 3 rfl)) ?_)
                  try simp only [Act.put, List.setIfInBounds_toArray, List.set_cons_zero, List.set_cons_succ]
                  iterate 4
                    first
                      | (refine plan_pass _ rfl (by rfl) ?_)
                      | (refine plan_take _ _ rfl (.inl ⟨by rfl, fun W hS => by clear hS; go_simp; try with_reducible rfl⟩) ?_)
                    try simp only [Act.put, List.setIfInBounds_toArray, List.set_cons_zero, List.set_cons_succ]
                  first
                    | (refine plan_pass _ rfl (by rfl) ?_)
                    | (refine plan_take _ _ rfl (yields_bal_any (s.b) (by rfl) _ rfl _ rfl (fun _ h => hsb _ h.below)) ?_)
                  try simp only [Act.put, List.setIfInBounds_toArray, List.set_cons_zero, List.set_cons_succ]
                  first
                    | (refine plan_pass _ rfl (by rfl) ?_)
                    | (refine plan_take _ _ rfl (yields_bal_nes (s.b) (hs.b) (by rfl) _ _ _ rfl rfl rfl) ?_)
                  try simp only [Act.put, List.setIfInBounds_toArray, List.set_cons_zero, List.set_cons_succ]
                  iterate 7
                    first
                      | (refine plan_pass _ rfl (by rfl) ?_)
                      | (refine plan_take _ _ rfl (.inl ⟨by rfl, fun W hS => by clear hS; go_simp; try with_reducible rfl⟩) ?_)
                    try simp only [Act.put, List.setIfInBounds_toArray, List.set_cons_zero, List.set_cons_succ]
                  first
                    | (refine plan_pass _ rfl (by rfl) ?_)
                    | (refine plan_take _ _ rfl (yields_bal_any (s.b) (by rfl) _ rfl _ rfl (fun _ h => hsb _ h.below)) ?_)
                  try simp only [Act.put, List.setIfInBounds_toArray, List.set_cons_zero, List.set_cons_succ]
                  first
                    | (refine plan_pass _ rfl (by rfl) ?_)
                    | (refine plan_take _ _ rfl (yields_bal (A.pro) (by rfl) _ rfl (w3.heap.size) rfl (fun _ h => h.get 0 rfl)) ?_)
                  try simp only [Act.put, List.setIfInBounds_toArray, List.set_cons_zero, List.set_cons_succ]
                  first
                    | (refine plan_run _ rfl (fun K hK => ?_); go_simp; refine hK.out _ _ hS ?_; clear hK K)
                    | (refine plan_run _ rfl (fun K hK => ?_); go_simp; refine (l3 _).mono ?_; rintro e x3 ⟨rfl, hq⟩; replace hS := hS.later hq; refine hK.out _ _ hS ?_; clear hK K hq)
                  iterate 5
                    first
                      | (refine plan_pass _ rfl (by rfl) ?_)
                      | (refine plan_take _ _ rfl (.inl ⟨by rfl, fun W hS => by clear hS; go_simp; try with_reducible rfl⟩) ?_)
                    try simp only [Act.put, List.setIfInBounds_toArray, List.set_cons_zero, List.set_cons_succ]
                  refine plan_done ?_
                  go_wp2
                  go_roundw
                  case rel => exact ⟨n + 1, _, by omega, by go_num, hS.get 6 rfl, hAok, hinv.out, hS.below⟩
                  case measure => simp [intOf]; omega
      · have hnI : (l.length : Int) ≤ (n : Int) := by omega
        go_wp2
        go_ret
        exact ⟨rfl, hb⟩
  · have hlenI : (60 : Int) < (l.length : Int) := by omega
    go_wp2
    go_ret
    exact ⟨rfl, hb⟩
end Go.Proofs.Ytlcappkokdgpgaa
