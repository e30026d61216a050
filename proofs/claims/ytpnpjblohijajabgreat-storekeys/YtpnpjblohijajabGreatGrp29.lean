/- JnlTryAny, joined. -/
import Derived.Test.YtpnpjblohijajabGreatGrp24
namespace Go.Proofs.YtpnpjblohijajabGreat
section
set_option linter.unusedSimpArgs false
set_option linter.unusedVariables false
set_option maxRecDepth 100000
open Go.RowKit Go.MapKept

theorem try1_any (f : Nat) (caps : Array Value) (hE : Enters f caps) (n j n0 n1 : Nat) (w : World) (R X : World → Prop) (c0 : w.cell? ⟨n0, 0, none⟩ = some (.pointer (some ⟨j, 0, none⟩))) (c1 : w.cell? ⟨n1, 0, none⟩ = some (.func (.func f) #[] caps)) (cb : w.cell? ⟨j, 6, none⟩ = some (.bool false))
    (hF : Calls Tryz.prog f caps w fun e w' => (e = .returned (.tuple #[]) ∧ R w') ∨ (e = thrownJ n ∧ X w')) : Calls Tryz.prog 54 #[.pointer (some ⟨n0, 0, none⟩), .pointer (some ⟨n1, 0, none⟩)] w fun e w' => (e = .returned (.tuple #[]) ∧ R w') ∨ (e = thrownJ n ∧ X w') := by
  replace hF : Hid _ := hF
  replace hE : Hid _ := hE
  go_enter Tryz.func54, Tryz.ntmps54
  go_wp2_with (first
    | (go_at_call 33; refine (must_yes 131 _).mono ?_; rintro e w9 ⟨rfl, h9⟩; have h9' := h9.symm; clear h9; subst h9')
    | fail)
  rw [show (callFunc f caps).run Tryz.prog w = .ok (.enter f caps) w from hE.out w]
  unfold Oper.upon
  refine Calls.mono hF.out ?_
  rintro e w' (⟨rfl, hw⟩ | ⟨rfl, hw⟩)
  · clear hF hE c0 c1 cb
    go_wp2
    go_end0
    exact .inl ⟨rfl, hw⟩
  · clear hF hE c0 c1 cb
    unfold thrownJ
    go_wp2
    exact ⟨rfl, .inr ⟨rfl, hw⟩⟩
theorem jcaught_any (a b : Value) (n : Nat) (w : World) (R X : World → Prop)
    (hF : Calls Tryz.prog 54 #[a, b] (w.alloc (.cells #[.int .i64 0] 25)) fun e w' => (e = .returned (.tuple #[]) ∧ R w') ∨ (e = thrownJ n ∧ X w'))
    (hR : ∀ w1, R w1 → w1.cell? ⟨w.heap.size, 0, none⟩ = some (.int .i64 0) ∧ w1.frozen? ⟨w.heap.size, 0, none⟩ = false) (hX : ∀ w1, X w1 → w1.cell? ⟨w.heap.size, 0, none⟩ = some (.int .i64 0) ∧ w1.frozen? ⟨w.heap.size, 0, none⟩ = false) :
    Calls Tryz.prog 53 #[.func (.func 54) #[] #[a, b]] w fun e w' => (e = .returned (.int .i64 0) ∧ ∃ w1, R w1 ∧ w' = w1.setCell ⟨w.heap.size, 0, none⟩ (.int .i64 0)) ∨ (e = .returned (.int .i64 (n : Nat)) ∧ ∃ w1, X w1 ∧ w' = w1.setCell ⟨w.heap.size, 0, none⟩ (.int .i64 (n : Nat))) := by
  have hmf : ∀ (fn : Fn) (first cap : Array Value) (w : World), (Instr.makeFunc fn first cap).run Tryz.prog w = .ok (.func fn first cap) w := fun _ _ _ _ => rfl
  replace hF : Hid _ := hF
  replace hR : Hid _ := hR
  replace hX : Hid _ := hX
  go_enter_defers Tryz.func53, Tryz.ntmps53
  go_wp2_with fail
  refine Calls.mono hF.out ?_
  rintro e w' (⟨rfl, hw⟩ | ⟨rfl, hw⟩)
  · obtain ⟨hc, hz⟩ := hR.out w' hw
    have HW : Hid (R w') := hw
    clear hw
    go_wp2
    refine leaves_cons (f := 85) (args := #[.pointer (some ⟨w.heap.size, 0, none⟩)]) (by simp) (by simp [go_sem]) ?_
    refine (jcatch_idle ⟨w.heap.size, 0, none⟩ _).mono ?_
    rintro e u' w'' ⟨rfl, rfl, rfl⟩
    have hc2 : (w'.setCell ⟨w.heap.size, 0, none⟩ (.int .i64 0)).cell? ⟨w.heap.size, 0, none⟩ = some (.int .i64 0) := by
      rw [World.cell?_setCell_same _ _ _ hc]
    simp [Leaves, settle, results, Tryz.results53, go_sem, hc2]
    exact .inl ⟨w', HW.out, rfl⟩
  · obtain ⟨hc, hz⟩ := hX.out w' hw
    have HW : Hid (X w') := hw
    clear hw
    unfold thrownJ
    go_wp2
    refine leaves_cons (f := 85) (args := #[.pointer (some ⟨w.heap.size, 0, none⟩)]) (by simp) (by simp [go_sem]) ?_
    refine (jcatch_panicking ⟨w.heap.size, 0, none⟩ n 0 [] _ hc hz).mono ?_
    rintro e u' w'' ⟨rfl, rfl, rfl⟩
    have hc2 : (w'.setCell ⟨w.heap.size, 0, none⟩ (.int .i64 n)).cell? ⟨w.heap.size, 0, none⟩ = some (.int .i64 n) := by
      rw [World.cell?_setCell_same _ _ _ hc]
    simp [Leaves, settle, results, Tryz.results53, go_sem, hc2]
    exact .inr ⟨w', HW.out, rfl⟩
/-- An attempt, in which the power may go. -/
theorem attempt_any (f : Nat) (caps : Array Value) (hE : Enters f caps) (j : Nat) (w : World) (R X : World → Prop) (hj : j < w.heap.size) (cb : w.cell? ⟨j, 6, none⟩ = some (.bool false))
    (hF : Calls Tryz.prog f caps (tryW w j f caps) fun e w' => (e = .returned (.tuple #[]) ∧ R w') ∨ (e = thrownJ 131 ∧ X w')) (hR : ∀ w1, R w1 → Tried w w1 j) (hX : ∀ w1, X w1 → Tried w w1 j) :
    Calls Tryz.prog 31 #[.pointer (some ⟨j, 0, none⟩), .func (.func f) #[] caps] w fun e w' =>
      (e = .returned (.int .i64 0) ∧ ∃ w1, R w1 ∧ w' = (w1.setCell ⟨w.heap.size + 2, 0, none⟩ (.int .i64 0)).setCell ⟨j, 6, none⟩ (.bool false)) ∨
      (e = .returned (.int .i64 ((131 : Nat) : Int)) ∧ ∃ w1, X w1 ∧ w' = (w1.setCell ⟨w.heap.size + 2, 0, none⟩ (.int .i64 ((131 : Nat) : Int))).setCell ⟨j, 6, none⟩ (.bool true)) := by
  obtain ⟨h0, h1, h2⟩ := try_has w j f caps
  have hb := try_below w j f caps
  have cb3 : (tryW w j f caps).cell? ⟨j, 6, none⟩ = some (.bool false) := (hb.cell (p := ⟨j, 6, none⟩) hj).trans cb
  have ht := try1_any f caps hE 131 j w.heap.size (w.heap.size + 1) (tryW w j f caps) R X (h0.cell 0) (h1.cell 0) cb3 hF
  have e2 : ((w.alloc (.cells #[.pointer (some ⟨j, 0, none⟩)] 40)).alloc (.cells #[.func (.func f) #[] caps] 1)).heap.size = w.heap.size + 2 := by simp
  have hc := jcaught_any (.pointer (some ⟨w.heap.size, 0, none⟩)) (.pointer (some ⟨w.heap.size + 1, 0, none⟩)) 131 ((w.alloc (.cells #[.pointer (some ⟨j, 0, none⟩)] 40)).alloc (.cells #[.func (.func f) #[] caps] 1)) R X ht (fun w1 hw => by
    have := (hR w1 hw).err
    rw [e2]
    exact ⟨this.cell 0, this.free 0⟩) (fun w1 hw => by
    have := (hX w1 hw).err
    rw [e2]
    exact ⟨this.cell 0, this.free 0⟩)
  rw [e2] at hc
  have hmf : ∀ (fn : Fn) (first cap : Array Value) (w : World), (Instr.makeFunc fn first cap).run Tryz.prog w = .ok (.func fn first cap) w := fun _ _ _ _ => rfl
  replace hc : Hid _ := hc
  replace hR : Hid _ := hR
  replace hX : Hid _ := hX
  clear ht hF hE h0 h1 h2 hb cb3 cb e2
  go_enter Tryz.func31, Tryz.ntmps31
  go_wp2_with fail
  refine Calls.mono hc.out ?_
  rintro e w' (⟨rfl, w1, hw, rfl⟩ | ⟨rfl, w1, hw, rfl⟩)
  · skip
    have ht := hR.out w1 hw
    have hne : w.heap.size + 2 ≠ j := by omega
    have hP := ht.ptr.set_other (a := ⟨w.heap.size + 2, 0, none⟩) (show w.heap.size ≠ w.heap.size + 2 by omega) (.int .i64 0)
    have c0 := hP.cell 0
    have cf : ∃ v, (w1.setCell ⟨w.heap.size + 2, 0, none⟩ (.int .i64 0)).cell? ⟨j, 6, none⟩ = some v := by
      obtain ⟨v, hv⟩ := ht.flag
      refine ⟨v, ?_⟩
      rw [World.cell?_setCell_other _ _ _ _ (by intro z; cases z)]
      exact hv
    obtain ⟨v, cf⟩ := cf
    have zf : (w1.setCell ⟨w.heap.size + 2, 0, none⟩ (.int .i64 0)).frozen? ⟨j, 6, none⟩ = false := by
      rw [World.frozen?_setCell]
      exact ht.free
    have HW : Hid (R w1) := hw
    obtain ⟨W2, hW2⟩ : ∃ W, w1.setCell ⟨w.heap.size + 2, 0, none⟩ (.int .i64 0) = W := ⟨_, rfl⟩
    rw [hW2] at c0 cf zf ⊢
    have hW2' : Hid (w1.setCell ⟨w.heap.size + 2, 0, none⟩ (.int .i64 0) = W2) := hW2
    clear hc hR hX ht hP hw hne hj hW2
    go_wp2
    go_ret
    exact .inl ⟨rfl, w1, HW.out, by rw [hW2'.out]⟩
  · skip
    have ht := hX.out w1 hw
    have hne : w.heap.size + 2 ≠ j := by omega
    have hP := ht.ptr.set_other (a := ⟨w.heap.size + 2, 0, none⟩) (show w.heap.size ≠ w.heap.size + 2 by omega) (.int .i64 ((131 : Nat) : Int))
    have c0 := hP.cell 0
    have cf : ∃ v, (w1.setCell ⟨w.heap.size + 2, 0, none⟩ (.int .i64 ((131 : Nat) : Int))).cell? ⟨j, 6, none⟩ = some v := by
      obtain ⟨v, hv⟩ := ht.flag
      refine ⟨v, ?_⟩
      rw [World.cell?_setCell_other _ _ _ _ (by intro z; cases z)]
      exact hv
    obtain ⟨v, cf⟩ := cf
    have zf : (w1.setCell ⟨w.heap.size + 2, 0, none⟩ (.int .i64 ((131 : Nat) : Int))).frozen? ⟨j, 6, none⟩ = false := by
      rw [World.frozen?_setCell]
      exact ht.free
    have HW : Hid (X w1) := hw
    obtain ⟨W2, hW2⟩ : ∃ W, w1.setCell ⟨w.heap.size + 2, 0, none⟩ (.int .i64 ((131 : Nat) : Int)) = W := ⟨_, rfl⟩
    rw [hW2] at c0 cf zf ⊢
    have hW2' : Hid (w1.setCell ⟨w.heap.size + 2, 0, none⟩ (.int .i64 ((131 : Nat) : Int)) = W2) := hW2
    clear hc hR hX ht hP hw hne hj hW2
    go_wp2
    go_ret
    exact .inr ⟨rfl, w1, HW.out, by rw [hW2'.out]⟩
end
end Go.Proofs.YtpnpjblohijajabGreat
