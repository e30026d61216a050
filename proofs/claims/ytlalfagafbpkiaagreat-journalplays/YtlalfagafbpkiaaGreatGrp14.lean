/- JnlCaught, joined. -/
import Derived.Test.YtlalfagafbpkiaaGreatGrp13
import Derived.Recover
namespace Go.Proofs.YtlalfagafbpkiaaGreat
section
set_option linter.unusedSimpArgs false
set_option linter.unusedVariables false
set_option maxRecDepth 100000
open Go.RowKit Go.MapKept

theorem jcatch_idle (p : Addr) (w : World) :
    CallsD Tryz.prog 57 #[.pointer (some p)] .returning w fun e u' w' => e = .returned (.tuple #[]) ∧ u' = .returning ∧ w' = w := by
  refine callsD_of_wpS Tryz.func57 rfl fun c₀ cs hu => ?_
  apply wpS_seq
  apply wpS_region
  simp [wpOpsS, go_sem, recoverD, hu, Tryz.ntmps57, Exit.thenS, Array.replicate]
  apply wpS_seq
  apply wpS_region
  simp [wpOpsS, go_sem, Exit.thenS, Array.replicate]
  refine wpS_cond (t := false) (by simp [Act.eval]) ?_
  simp only [Bool.false_eq_true, if_false]
  refine wpS_of_wp (wp_skip ?_)
  cases c₀
  simp_all [bodyPostS, results, Tryz.results57]
theorem jcatch_panicking (p : Addr) (x y : Int) (older : List PanicEntry) (w : World) (hc : w.cell? p = some (.int .i64 y)) (hz : w.frozen? p = false) :
    CallsD Tryz.prog 57 #[.pointer (some p)] (.panicking ({ v := .iface 27 (.int .i64 x), recovered := false } :: older)) w fun e u' w' =>
      e = .returned (.tuple #[]) ∧ u' = .panicking ({ v := .iface 27 (.int .i64 x), recovered := true } :: older) ∧ w' = w.setCell p (.int .i64 x) := by
  have hta : ∀ (x : Int) (w : World), (Instr.typeAssert (.iface 27 (.int .i64 x)) 20 27 false).run Tryz.prog w = .ok (.int .i64 x) w := fun _ _ => by kernel_rfl
  refine callsD_of_wpS Tryz.func57 rfl fun c₀ cs hu => ?_
  apply wpS_seq
  apply wpS_region
  simp [wpOpsS, go_sem, recoverD, hu, Tryz.ntmps57, Exit.thenS, hta, Array.replicate]
  apply wpS_seq
  apply wpS_region
  simp [wpOpsS, go_sem, Exit.thenS, Array.replicate]
  refine wpS_cond (t := true) (by simp [Act.eval]) ?_
  simp only [if_true]
  refine wpS_of_wp ?_
  go_wp2_with fail
  cases c₀
  simp_all [bodyPostS, results, Tryz.results57]
/-- journal.caught over a closure that returns. -/
theorem jcaught_ok (a b : Value) (w : World) (R : World → Prop)
    (hF : Calls Tryz.prog 38 #[a, b] (w.alloc (.cells #[.int .i64 0] 27)) fun e w' => e = .returned (.tuple #[]) ∧ R w')
    (hR : ∀ w1, R w1 → (∃ v, w1.cell? ⟨w.heap.size, 0, none⟩ = some v) ∧ w1.frozen? ⟨w.heap.size, 0, none⟩ = false) :
    Calls Tryz.prog 37 #[.func (.func 38) #[] #[a, b]] w fun e w' => e = .returned (.int .i64 0) ∧ ∃ w1, R w1 ∧ w' = w1.setCell ⟨w.heap.size, 0, none⟩ (.int .i64 0) := by
  have hmf : ∀ (fn : Fn) (first cap : Array Value) (w : World), (Instr.makeFunc fn first cap).run Tryz.prog w = .ok (.func fn first cap) w := fun _ _ _ _ => rfl
  replace hF : Hid _ := hF
  replace hR : Hid _ := hR
  go_enter_defers Tryz.func37, Tryz.ntmps37
  go_wp2_with fail
  refine Calls.mono hF.out ?_
  rintro e w' ⟨rfl, hw⟩
  obtain ⟨⟨v0, hc⟩, hz⟩ := hR.out w' hw
  have HW : Hid (R w') := hw
  clear hw
  go_wp2
  refine leaves_cons (f := 57) (args := #[.pointer (some ⟨w.heap.size, 0, none⟩)]) (by simp) (by simp [go_sem]) ?_
  refine (jcatch_idle ⟨w.heap.size, 0, none⟩ _).mono ?_
  rintro e u' w'' ⟨rfl, rfl, rfl⟩
  have hc2 : (w'.setCell ⟨w.heap.size, 0, none⟩ (.int .i64 0)).cell? ⟨w.heap.size, 0, none⟩ = some (.int .i64 0) := by
    rw [World.cell?_setCell_same _ _ _ hc]
  simp [Leaves, settle, results, Tryz.results37, go_sem, hc2]
  exact ⟨w', HW.out, rfl⟩
/-- journal.caught over a closure that throws a number. -/
theorem jcaught_err (a b : Value) (n : Nat) (w : World) (R : World → Prop)
    (hF : Calls Tryz.prog 38 #[a, b] (w.alloc (.cells #[.int .i64 0] 27)) fun e w' => e = thrownJ n ∧ R w')
    (hR : ∀ w1, R w1 → w1.cell? ⟨w.heap.size, 0, none⟩ = some (.int .i64 0) ∧ w1.frozen? ⟨w.heap.size, 0, none⟩ = false) :
    Calls Tryz.prog 37 #[.func (.func 38) #[] #[a, b]] w fun e w' => e = .returned (.int .i64 (n : Nat)) ∧ ∃ w1, R w1 ∧ w' = w1.setCell ⟨w.heap.size, 0, none⟩ (.int .i64 (n : Nat)) := by
  have hmf : ∀ (fn : Fn) (first cap : Array Value) (w : World), (Instr.makeFunc fn first cap).run Tryz.prog w = .ok (.func fn first cap) w := fun _ _ _ _ => rfl
  replace hF : Hid _ := hF
  replace hR : Hid _ := hR
  go_enter_defers Tryz.func37, Tryz.ntmps37
  go_wp2_with fail
  refine Calls.mono hF.out ?_
  rintro e w' ⟨rfl, hw⟩
  obtain ⟨hc, hz⟩ := hR.out w' hw
  have HW : Hid (R w') := hw
  clear hw
  unfold thrownJ
  go_wp2
  refine leaves_cons (f := 57) (args := #[.pointer (some ⟨w.heap.size, 0, none⟩)]) (by simp) (by simp [go_sem]) ?_
  refine (jcatch_panicking ⟨w.heap.size, 0, none⟩ n 0 [] _ hc hz).mono ?_
  rintro e u' w'' ⟨rfl, rfl, rfl⟩
  have hc2 : (w'.setCell ⟨w.heap.size, 0, none⟩ (.int .i64 n)).cell? ⟨w.heap.size, 0, none⟩ = some (.int .i64 n) := by
    rw [World.cell?_setCell_same _ _ _ hc]
  simp [Leaves, settle, results, Tryz.results37, go_sem, hc2]
  exact ⟨w', HW.out, rfl⟩
end
end Go.Proofs.YtlalfagafbpkiaaGreat
