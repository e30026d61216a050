/- The contracts of synod's Promise and Accepted. -/
import Derived.Test.YthpmkhbkbpifkaaSynSteps
namespace Go.Proofs.Ythpmkhbkbpifkaa
set_option linter.unusedSimpArgs false
set_option linter.unusedVariables false
set_option maxRecDepth 100000
open Go.RowKit

def moreL (v : LanV) (j : Nat) (acc : BalV) (x : IncV) (g : Bool) : LanV := if g = true then weighL { v with heard := setB v.heard j } acc x else { v with heard := setB v.heard j }
def promL (v : LanV) (j : Nat) (b acc : BalV) (x : IncV) (g : Bool) : LanV × Bool :=
  if deafL v 1 j b = true then (v, false) else if cnt (setB v.heard j) < 2 then (moreL v j acc x g, false) else (settleL (moreL v j acc x g), true)
def accL (v : LanV) (j : Nat) (b : BalV) : LanV × Bool :=
  if deafL v 2 j b = true then (v, false) else if cnt (setB v.heard j) < 2 then ({ v with heard := setB v.heard j }, false) else (decideL { v with heard := setB v.heard j }, true)

theorem more_heard (v : LanV) (j : Nat) (acc : BalV) (x : IncV) (g : Bool) : (moreL v j acc x g).heard = setB v.heard j := by
  unfold moreL weighL
  split
  · split <;> rfl
  · rfl

set_option maxHeartbeats 2000000 in
theorem spromise_any (p : Nat) (v : LanV) (j : Nat) (b acc : BalV) (x : IncV) (g : Bool) (w : World) (h : Has w p 70 (lanC v)) (hp : v.phase < 256) (hvb : BalOk v.b) (hva : BalOk v.acc) (hj : j < 256) (hb : BalOk b) (ha : BalOk acc) :
    Calls Try.prog 12 #[.pointer (some ⟨p, 0, none⟩), .int .u8 (j : Int), .agg (balC b), .agg (balC acc), .agg (incC x), .bool g] w fun e w' => e = .returned (.bool (promL v j b acc x g).2) ∧ Has w' p 70 (lanC (promL v j b acc x g).1) ∧ But p w w' := by
  obtain ⟨w1, hw1, hB, hC, hX, hbw⟩ := three_vars w 31 31 23 (balC b) (balC acc) (incC x)
  have hlt := h.lt
  have hA := h.later hbw
  go_enter Try.func12, Try.ntmps12
  go_wp2_with (first
    | (refine load_bal b (by rfl) _ rfl w.heap.size rfl ?hg ?_; (case hg => exact hB)))
  refine (hears_any p v 1 j b _ hA (by decide) hp hj hvb hb).mono ?_
  rintro e w2 ⟨rfl, hA2, hq⟩
  replace hC := hq.has hC (by omega)
  replace hX := hq.has hX (by omega)
  replace hq := (But.of (p := p) hbw).trans hq
  clear hB hbw hw1 hA
  cases hd : deafL v 1 j b with
  | true =>
    have hP : Hid (promL v j b acc x g = (v, false)) := by show _ = _; unfold promL; rw [if_pos hd]
    have hL : hearL v 1 j b = v := by unfold hearL; rw [if_pos hd]
    rw [hL] at hA2
    clear hd hL
    go_wp2
    go_ret
    exact ⟨by rw [hP.out]; rfl, by rw [hP.out]; exact hA2, hq⟩
  | false =>
    have hP : promL v j b acc x g = if cnt (setB v.heard j) < 2 then (moreL v j acc x g, false) else (settleL (moreL v j acc x g), true) := by unfold promL; rw [if_neg (by rw [hd]; decide)]
    have hL : hearL v 1 j b = { v with heard := setB v.heard j } := by unfold hearL; rw [if_neg (by rw [hd]; decide)]
    rw [hL] at hA2
    have hmh := more_heard v j acc x g
    replace hP : Hid _ := hP
    clear hd hL
    cases g with
    | false =>
      have hmo : moreL v j acc x false = { v with heard := setB v.heard j } := rfl
      rw [← hmo] at hA2
      generalize moreL v j acc x false = u at *
      clear hmo
      by_cases hc : cnt (setB v.heard j) < 2
      · rw [if_pos hc] at hP
        rw [← hmh] at hc
        go_wp2_with (go_at_call 27; refine (ends_no p u _ _ hA2 hc).mono ?_; rintro e w4 ⟨rfl, hq4⟩)
        go_ret
        exact ⟨by rw [hP.out]; rfl, by rw [hP.out]; exact hA2.later hq4, hq.later hq4⟩
      · rw [if_neg hc] at hP
        rw [← hmh] at hc
        go_wp2_with (go_at_call 27; refine (ends_settle p u _ hA2 hc).mono ?_; rintro e w4 ⟨rfl, hA4, hq4⟩)
        go_ret
        exact ⟨by rw [hP.out]; rfl, by rw [hP.out]; exact hA4, hq.trans hq4⟩
    | true =>
      have hmo : moreL v j acc x true = weighL { v with heard := setB v.heard j } acc x := rfl
      go_wp2
      refine wp_region_plan (fun W => Has W (w.heap.size + 1) 31 (balC acc) ∧ Has W (w.heap.size + 1 + 1) 23 (incC x)) (Plan.of [(0, true), (1, true), (2, true), (3, true), (4, true), (5, false)] .done) (by kernel_rfl) (by kernel_rfl) (by kernel_rfl) (by kernel_rfl) ⟨hC.drew, hX.drew⟩ ?_
      iterate 3
        first
          | (refine plan_pass _ rfl (by rfl) ?_)
          | (refine plan_take _ _ rfl (.inl ⟨by rfl, fun W hS => by clear hS; go_simp; try with_reducible rfl⟩) ?_)
        try simp only [Act.put, List.setIfInBounds_toArray, List.set_cons_zero, List.set_cons_succ]
      refine plan_take _ _ rfl (yields_bal acc (by rfl) _ rfl (w.heap.size + 1) rfl (fun _ h => h.1)) ?_
      try simp only [Act.put, List.setIfInBounds_toArray, List.set_cons_zero, List.set_cons_succ]
      refine plan_take _ _ rfl (yields_inc x (by rfl) _ rfl (w.heap.size + 1 + 1) rfl (fun _ h => h.2)) ?_
      try simp only [Act.put, List.setIfInBounds_toArray, List.set_cons_zero, List.set_cons_succ]
      refine plan_run _ rfl (fun K hK => ?_)
      go_simp
      refine (weigh_any p _ acc x _ hA2.drew hva ha).mono ?_
      rintro e w3 ⟨rfl, hA3, hq3⟩
      replace hC := hq3.has hC.drew (by omega)
      replace hX := hq3.has hX.drew (by omega)
      replace hq := (hq.trans (But.of (p := p) ((Below.refl w2.heap.size w2).drew))).trans hq3
      refine hK.out _ _ ⟨hC, hX⟩ ?_
      clear hK K hq3 hA2
      try simp only [Act.put, List.setIfInBounds_toArray, List.set_cons_zero, List.set_cons_succ]
      refine plan_done ?_
      rw [← hmo] at hA3
      generalize moreL v j acc x true = u at *
      clear hmo
      have hA2 := hA3
      clear hA3
      by_cases hc : cnt (setB v.heard j) < 2
      · rw [if_pos hc] at hP
        rw [← hmh] at hc
        go_wp2_with (go_at_call 27; refine (ends_no p u _ _ hA2 hc).mono ?_; rintro e w4 ⟨rfl, hq4⟩)
        go_ret
        exact ⟨by rw [hP.out]; rfl, by rw [hP.out]; exact hA2.later hq4, hq.later hq4⟩
      · rw [if_neg hc] at hP
        rw [← hmh] at hc
        go_wp2_with (go_at_call 27; refine (ends_settle p u _ hA2 hc).mono ?_; rintro e w4 ⟨rfl, hA4, hq4⟩)
        go_ret
        exact ⟨by rw [hP.out]; rfl, by rw [hP.out]; exact hA4, hq.trans hq4⟩

set_option maxHeartbeats 2000000 in
theorem saccepted_any (p : Nat) (v : LanV) (j : Nat) (b : BalV) (w : World) (h : Has w p 70 (lanC v)) (hp : v.phase < 256) (hvb : BalOk v.b) (hj : j < 256) (hb : BalOk b) :
    Calls Try.prog 14 #[.pointer (some ⟨p, 0, none⟩), .int .u8 (j : Int), .agg (balC b)] w fun e w' => e = .returned (.bool (accL v j b).2) ∧ Has w' p 70 (lanC (accL v j b).1) ∧ But p w w' := by
  obtain ⟨w1, hw1, hB, hbw⟩ := one_var w 31 (balC b)
  have hlt := h.lt
  have hA := h.later hbw
  go_enter Try.func14, Try.ntmps14
  go_wp2_with (first
    | (refine load_bal b (by rfl) _ rfl w.heap.size rfl ?hg ?_; (case hg => exact hB)))
  refine (hears_any p v 2 j b _ hA (by decide) hp hj hvb hb).mono ?_
  rintro e w2 ⟨rfl, hA2, hq⟩
  replace hq := (But.of (p := p) hbw).trans hq
  clear hB hbw hw1 hA
  cases hd : deafL v 2 j b with
  | true =>
    have hP : Hid (accL v j b = (v, false)) := by show _ = _; unfold accL; rw [if_pos hd]
    have hL : hearL v 2 j b = v := by unfold hearL; rw [if_pos hd]
    rw [hL] at hA2
    clear hd hL
    go_wp2
    go_ret
    exact ⟨by rw [hP.out]; rfl, by rw [hP.out]; exact hA2, hq⟩
  | false =>
    have hP : accL v j b = if cnt (setB v.heard j) < 2 then ({ v with heard := setB v.heard j }, false) else (decideL { v with heard := setB v.heard j }, true) := by unfold accL; rw [if_neg (by rw [hd]; decide)]
    have hL : hearL v 2 j b = { v with heard := setB v.heard j } := by unfold hearL; rw [if_neg (by rw [hd]; decide)]
    rw [hL] at hA2
    have hmh : LanV.heard { v with heard := setB v.heard j } = setB v.heard j := rfl
    replace hP : Hid _ := hP
    clear hd hL
    generalize ({ v with heard := setB v.heard j } : LanV) = u at *
    by_cases hc : cnt (setB v.heard j) < 2
    · have hP2 : Hid (accL v j b = (u, false)) := by show _ = _; rw [hP.out, if_pos hc]
      rw [← hmh] at hc
      clear hP
      go_wp2_with (go_at_call 27; refine (ends_no p u _ _ hA2 hc).mono ?_; rintro e w4 ⟨rfl, hq4⟩)
      go_ret
      exact ⟨by rw [hP2.out]; rfl, by rw [hP2.out]; exact hA2.later hq4, hq.later hq4⟩
    · have hP2 : Hid (accL v j b = (decideL u, true)) := by show _ = _; rw [hP.out, if_neg hc]
      rw [← hmh] at hc
      clear hP
      go_wp2_with (go_at_call 27; refine (ends_decide p u _ hA2 hc).mono ?_; rintro e w4 ⟨rfl, hA4, hq4⟩)
      go_ret
      exact ⟨by rw [hP2.out]; rfl, by rw [hP2.out]; exact hA4, hq.trans hq4⟩
end Go.Proofs.Ythpmkhbkbpifkaa
