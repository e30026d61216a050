/- JnlTry, joined. -/
import Derived.Test.YtpnpjblohijajabGreatGrp23
namespace Go.Proofs.YtpnpjblohijajabGreat
section
set_option linter.unusedSimpArgs false
set_option linter.unusedVariables false
set_option maxRecDepth 100000
open Go.RowKit Go.MapKept

/-- A function that a call goes into. -/
def Enters (f : Nat) (caps : Array Value) : Prop := ∀ w : World, (callFunc f caps).run Tryz.prog w = .ok (.enter f caps) w
theorem try1_ok (f : Nat) (caps : Array Value) (hE : Enters f caps) (j n0 n1 : Nat) (w : World) (R : World → Prop) (c0 : w.cell? ⟨n0, 0, none⟩ = some (.pointer (some ⟨j, 0, none⟩))) (c1 : w.cell? ⟨n1, 0, none⟩ = some (.func (.func f) #[] caps)) (cb : w.cell? ⟨j, 6, none⟩ = some (.bool false))
    (hF : Calls Tryz.prog f caps w fun e w' => e = .returned (.tuple #[]) ∧ R w') : Calls Tryz.prog 54 #[.pointer (some ⟨n0, 0, none⟩), .pointer (some ⟨n1, 0, none⟩)] w fun e w' => e = .returned (.tuple #[]) ∧ R w' := by
  replace hF : Hid _ := hF
  replace hE : Hid _ := hE
  go_enter Tryz.func54, Tryz.ntmps54
  go_wp2_with (first
    | (go_at_call 33; refine (must_yes 131 _).mono ?_; rintro e w9 ⟨rfl, h9⟩; have h9' := h9.symm; clear h9; subst h9')
    | fail)
  rw [show (callFunc f caps).run Tryz.prog w = .ok (.enter f caps) w from hE.out w]
  unfold Oper.upon
  refine Calls.mono hF.out ?_
  rintro e w' ⟨rfl, hw⟩
  clear hF hE c0 c1 cb
  go_wp2
  go_end0
  exact ⟨rfl, hw⟩
theorem try1_err (f : Nat) (caps : Array Value) (hE : Enters f caps) (n j n0 n1 : Nat) (w : World) (R : World → Prop) (c0 : w.cell? ⟨n0, 0, none⟩ = some (.pointer (some ⟨j, 0, none⟩))) (c1 : w.cell? ⟨n1, 0, none⟩ = some (.func (.func f) #[] caps)) (cb : w.cell? ⟨j, 6, none⟩ = some (.bool false))
    (hF : Calls Tryz.prog f caps w fun e w' => e = thrownJ n ∧ R w') : Calls Tryz.prog 54 #[.pointer (some ⟨n0, 0, none⟩), .pointer (some ⟨n1, 0, none⟩)] w fun e w' => e = thrownJ n ∧ R w' := by
  replace hF : Hid _ := hF
  replace hE : Hid _ := hE
  go_enter Tryz.func54, Tryz.ntmps54
  go_wp2_with (first
    | (go_at_call 33; refine (must_yes 131 _).mono ?_; rintro e w9 ⟨rfl, h9⟩; have h9' := h9.symm; clear h9; subst h9')
    | fail)
  rw [show (callFunc f caps).run Tryz.prog w = .ok (.enter f caps) w from hE.out w]
  unfold Oper.upon
  refine Calls.mono hF.out ?_
  rintro e w' ⟨rfl, hw⟩
  clear hF hE c0 c1 cb
  unfold thrownJ
  go_wp2
  exact ⟨rfl, rfl, hw⟩
theorem try1_broken (f : Nat) (caps : Array Value) (j n0 n1 : Nat) (w : World) (c0 : w.cell? ⟨n0, 0, none⟩ = some (.pointer (some ⟨j, 0, none⟩))) (cb : w.cell? ⟨j, 6, none⟩ = some (.bool true)) :
    Calls Tryz.prog 54 #[.pointer (some ⟨n0, 0, none⟩), .pointer (some ⟨n1, 0, none⟩)] w fun e w' => e = thrownJ 131 ∧ w' = w := by
  go_enter Tryz.func54, Tryz.ntmps54
  go_wp2_with (first
    | (go_at_call 33; refine (must_no 131 _).mono ?_; rintro e w9 ⟨rfl, h9⟩; have h9' := h9.symm; clear h9; subst h9'; unfold thrownJ)
    | fail)
  exact ⟨rfl, rfl, rfl⟩
/-- The world in which a journal's call is run. -/
def tryW (w : World) (j f : Nat) (caps : Array Value) : World := ((w.alloc (.cells #[.pointer (some ⟨j, 0, none⟩)] 40)).alloc (.cells #[.func (.func f) #[] caps] 1)).alloc (.cells #[.int .i64 0] 25)
theorem try_below (w : World) (j f : Nat) (caps : Array Value) : Below w.heap.size w (tryW w j f caps) :=
  (((Below.refl _ _).alloc (Nat.le_refl _) _).alloc (by simp) _).alloc (by simp; omega) _
theorem try_size (w : World) (j f : Nat) (caps : Array Value) : (tryW w j f caps).heap.size = w.heap.size + 3 := by simp [tryW]
theorem try_has (w : World) (j f : Nat) (caps : Array Value) : Has (tryW w j f caps) w.heap.size 40 #[.pointer (some ⟨j, 0, none⟩)] ∧ Has (tryW w j f caps) (w.heap.size + 1) 1 #[.func (.func f) #[] caps] ∧ Has (tryW w j f caps) (w.heap.size + 2) 25 #[.int .i64 0] := by
  obtain ⟨W, h0, h1, h2, h3, _⟩ := three_vars w 40 1 25 #[.pointer (some ⟨j, 0, none⟩)] #[.func (.func f) #[] caps] #[.int .i64 0]
  have e : tryW w j f caps = W := h0
  rw [e]
  exact ⟨h1, h2, h3⟩
/-- Where a journal's call has its own variables, behind whatever it did. -/
structure Tried (w w1 : World) (j : Nat) : Prop where
  ptr : Has w1 w.heap.size 40 #[.pointer (some ⟨j, 0, none⟩)]
  err : Has w1 (w.heap.size + 2) 25 #[.int .i64 0]
  flag : ∃ v, w1.cell? ⟨j, 6, none⟩ = some v
  free : w1.frozen? ⟨j, 6, none⟩ = false
set_option maxHeartbeats 1000000 in
theorem attempt_ok (f : Nat) (caps : Array Value) (hE : Enters f caps) (j : Nat) (w : World) (R : World → Prop) (hj : j < w.heap.size) (cb : w.cell? ⟨j, 6, none⟩ = some (.bool false))
    (hF : Calls Tryz.prog f caps (tryW w j f caps) fun e w' => e = .returned (.tuple #[]) ∧ R w') (hR : ∀ w1, R w1 → Tried w w1 j) :
    Calls Tryz.prog 31 #[.pointer (some ⟨j, 0, none⟩), .func (.func f) #[] caps] w fun e w' => e = .returned (.int .i64 0) ∧ ∃ w1, R w1 ∧ w' = (w1.setCell ⟨w.heap.size + 2, 0, none⟩ (.int .i64 0)).setCell ⟨j, 6, none⟩ (.bool false) := by
  obtain ⟨h0, h1, h2⟩ := try_has w j f caps
  have hb := try_below w j f caps
  have cb3 : (tryW w j f caps).cell? ⟨j, 6, none⟩ = some (.bool false) := (hb.cell (p := ⟨j, 6, none⟩) hj).trans cb
  have ht := try1_ok f caps hE j w.heap.size (w.heap.size + 1) (tryW w j f caps) R (h0.cell 0) (h1.cell 0) cb3 hF
  have hc := jcaught_ok (.pointer (some ⟨w.heap.size, 0, none⟩)) (.pointer (some ⟨w.heap.size + 1, 0, none⟩)) ((w.alloc (.cells #[.pointer (some ⟨j, 0, none⟩)] 40)).alloc (.cells #[.func (.func f) #[] caps] 1)) R ht (fun w1 hw => by
    have := (hR w1 hw).err
    have e : ((w.alloc (.cells #[.pointer (some ⟨j, 0, none⟩)] 40)).alloc (.cells #[.func (.func f) #[] caps] 1)).heap.size = w.heap.size + 2 := by simp
    rw [e]
    exact ⟨⟨_, this.cell 0⟩, this.free 0⟩)
  have e2 : ((w.alloc (.cells #[.pointer (some ⟨j, 0, none⟩)] 40)).alloc (.cells #[.func (.func f) #[] caps] 1)).heap.size = w.heap.size + 2 := by simp
  rw [e2] at hc
  have hmf : ∀ (fn : Fn) (first cap : Array Value) (w : World), (Instr.makeFunc fn first cap).run Tryz.prog w = .ok (.func fn first cap) w := fun _ _ _ _ => rfl
  replace hc : Hid _ := hc
  replace hR : Hid _ := hR
  clear ht hF hE h0 h1 h2 hb cb3 cb e2
  go_enter Tryz.func31, Tryz.ntmps31
  go_wp2_with fail
  refine Calls.mono hc.out ?_
  rintro e w' ⟨rfl, w1, hw, rfl⟩
  have ht := hR.out w1 hw
  have hne : w.heap.size + 2 ≠ j := by omega
  have hP := ht.ptr.set_other (a := ⟨w.heap.size + 2, 0, none⟩) (show w.heap.size ≠ w.heap.size + 2 by omega) (.int .i64 0)
  have c0 := hP.cell 0
  have cf : ∃ v, (w1.setCell ⟨w.heap.size + 2, 0, none⟩ (.int .i64 0)).cell? ⟨j, 6, none⟩ = some v := by
    obtain ⟨v, hv⟩ := ht.flag
    refine ⟨v, ?_⟩
    rw [World.cell?_setCell_other _ _ _ _ (by intro z; cases z)]
    exact hv
  obtain ⟨v, cf⟩ := cf
  have zf : (w1.setCell ⟨w.heap.size + 2, 0, none⟩ (.int .i64 0)).frozen? ⟨j, 6, none⟩ = false := by
    rw [World.frozen?_setCell]
    exact ht.free
  have HW : Hid (R w1) := hw
  obtain ⟨W2, hW2⟩ : ∃ W, w1.setCell ⟨w.heap.size + 2, 0, none⟩ (.int .i64 0) = W := ⟨_, rfl⟩
  rw [hW2] at c0 cf zf ⊢
  have hW2' : Hid (w1.setCell ⟨w.heap.size + 2, 0, none⟩ (.int .i64 0) = W2) := hW2
  clear hc hR ht hP hw hne hj hW2
  go_wp2
  go_ret
  exact ⟨rfl, w1, HW.out, by rw [hW2'.out]⟩
set_option maxHeartbeats 1000000 in
theorem attempt_err (n : Nat) (b : Bool) (hn : ((n : Int) == 131) = b) (f : Nat) (caps : Array Value) (hE : Enters f caps) (j : Nat) (w : World) (R : World → Prop) (hj : j < w.heap.size) (cb : w.cell? ⟨j, 6, none⟩ = some (.bool false))
    (hF : Calls Tryz.prog f caps (tryW w j f caps) fun e w' => e = thrownJ n ∧ R w') (hR : ∀ w1, R w1 → Tried w w1 j) :
    Calls Tryz.prog 31 #[.pointer (some ⟨j, 0, none⟩), .func (.func f) #[] caps] w fun e w' => e = .returned (.int .i64 (n : Nat)) ∧ ∃ w1, R w1 ∧ w' = (w1.setCell ⟨w.heap.size + 2, 0, none⟩ (.int .i64 (n : Nat))).setCell ⟨j, 6, none⟩ (.bool b) := by
  obtain ⟨h0, h1, h2⟩ := try_has w j f caps
  have hb := try_below w j f caps
  have cb3 : (tryW w j f caps).cell? ⟨j, 6, none⟩ = some (.bool false) := (hb.cell (p := ⟨j, 6, none⟩) hj).trans cb
  have ht := try1_err f caps hE n j w.heap.size (w.heap.size + 1) (tryW w j f caps) R (h0.cell 0) (h1.cell 0) cb3 hF
  have hc := jcaught_err (.pointer (some ⟨w.heap.size, 0, none⟩)) (.pointer (some ⟨w.heap.size + 1, 0, none⟩)) n ((w.alloc (.cells #[.pointer (some ⟨j, 0, none⟩)] 40)).alloc (.cells #[.func (.func f) #[] caps] 1)) R ht (fun w1 hw => by
    have := (hR w1 hw).err
    have e : ((w.alloc (.cells #[.pointer (some ⟨j, 0, none⟩)] 40)).alloc (.cells #[.func (.func f) #[] caps] 1)).heap.size = w.heap.size + 2 := by simp
    rw [e]
    exact ⟨this.cell 0, this.free 0⟩)
  have e2 : ((w.alloc (.cells #[.pointer (some ⟨j, 0, none⟩)] 40)).alloc (.cells #[.func (.func f) #[] caps] 1)).heap.size = w.heap.size + 2 := by simp
  rw [e2] at hc
  have hmf : ∀ (fn : Fn) (first cap : Array Value) (w : World), (Instr.makeFunc fn first cap).run Tryz.prog w = .ok (.func fn first cap) w := fun _ _ _ _ => rfl
  replace hc : Hid _ := hc
  replace hR : Hid _ := hR
  clear ht hF hE h0 h1 h2 hb cb3 cb e2
  go_enter Tryz.func31, Tryz.ntmps31
  go_wp2_with fail
  refine Calls.mono hc.out ?_
  rintro e w' ⟨rfl, w1, hw, rfl⟩
  have ht := hR.out w1 hw
  have hne : w.heap.size + 2 ≠ j := by omega
  have hP := ht.ptr.set_other (a := ⟨w.heap.size + 2, 0, none⟩) (show w.heap.size ≠ w.heap.size + 2 by omega) (.int .i64 (n : Nat))
  have c0 := hP.cell 0
  have cf : ∃ v, (w1.setCell ⟨w.heap.size + 2, 0, none⟩ (.int .i64 (n : Nat))).cell? ⟨j, 6, none⟩ = some v := by
    obtain ⟨v, hv⟩ := ht.flag
    refine ⟨v, ?_⟩
    rw [World.cell?_setCell_other _ _ _ _ (by intro z; cases z)]
    exact hv
  obtain ⟨v, cf⟩ := cf
  have zf : (w1.setCell ⟨w.heap.size + 2, 0, none⟩ (.int .i64 (n : Nat))).frozen? ⟨j, 6, none⟩ = false := by
    rw [World.frozen?_setCell]
    exact ht.free
  have HW : Hid (R w1) := hw
  obtain ⟨W2, hW2⟩ : ∃ W, w1.setCell ⟨w.heap.size + 2, 0, none⟩ (.int .i64 (n : Nat)) = W := ⟨_, rfl⟩
  rw [hW2] at c0 cf zf ⊢
  have hW2' : Hid (w1.setCell ⟨w.heap.size + 2, 0, none⟩ (.int .i64 (n : Nat)) = W2) := hW2
  clear hc hR ht hP hw hne hj hW2
  go_wp2
  go_ret
  exact ⟨rfl, w1, HW.out, by rw [hW2'.out]⟩
set_option maxHeartbeats 1000000 in
theorem attempt_broken (f : Nat) (caps : Array Value) (j : Nat) (w : World) (hj : j < w.heap.size) (cb : w.cell? ⟨j, 6, none⟩ = some (.bool true)) (zb : w.frozen? ⟨j, 6, none⟩ = false) :
    Calls Tryz.prog 31 #[.pointer (some ⟨j, 0, none⟩), .func (.func f) #[] caps] w fun e w' => e = .returned (.int .i64 ((131 : Nat) : Int)) ∧ ∃ w1, w1 = tryW w j f caps ∧ w' = (w1.setCell ⟨w.heap.size + 2, 0, none⟩ (.int .i64 ((131 : Nat) : Int))).setCell ⟨j, 6, none⟩ (.bool true) := by
  obtain ⟨h0, h1, h2⟩ := try_has w j f caps
  have hb := try_below w j f caps
  have cb3 : (tryW w j f caps).cell? ⟨j, 6, none⟩ = some (.bool true) := (hb.cell (p := ⟨j, 6, none⟩) hj).trans cb
  have zb3 : (tryW w j f caps).frozen? ⟨j, 6, none⟩ = false := (World.frozen?_of_block (hb.block j hj)).trans zb
  have ht := try1_broken f caps j w.heap.size (w.heap.size + 1) (tryW w j f caps) (h0.cell 0) cb3
  have hT : Tried w (tryW w j f caps) j := ⟨h0, h2, ⟨_, cb3⟩, zb3⟩
  have hc := jcaught_err (.pointer (some ⟨w.heap.size, 0, none⟩)) (.pointer (some ⟨w.heap.size + 1, 0, none⟩)) 131 ((w.alloc (.cells #[.pointer (some ⟨j, 0, none⟩)] 40)).alloc (.cells #[.func (.func f) #[] caps] 1)) (fun w1 => w1 = tryW w j f caps) ht (fun w1 hw => by
    subst hw
    have e : ((w.alloc (.cells #[.pointer (some ⟨j, 0, none⟩)] 40)).alloc (.cells #[.func (.func f) #[] caps] 1)).heap.size = w.heap.size + 2 := by simp
    rw [e]
    exact ⟨h2.cell 0, h2.free 0⟩)
  have e2 : ((w.alloc (.cells #[.pointer (some ⟨j, 0, none⟩)] 40)).alloc (.cells #[.func (.func f) #[] caps] 1)).heap.size = w.heap.size + 2 := by simp
  rw [e2] at hc
  have hmf : ∀ (fn : Fn) (first cap : Array Value) (w : World), (Instr.makeFunc fn first cap).run Tryz.prog w = .ok (.func fn first cap) w := fun _ _ _ _ => rfl
  replace hc : Hid _ := hc
  replace hT : Hid _ := hT
  clear ht h0 h1 h2 hb cb3 zb3 cb zb e2
  go_enter Tryz.func31, Tryz.ntmps31
  go_wp2_with fail
  refine Calls.mono hc.out ?_
  rintro e w' ⟨rfl, w1, hw, rfl⟩
  have ht : Tried w w1 j := by rw [hw]; exact hT.out
  have hne : w.heap.size + 2 ≠ j := by omega
  have hP := ht.ptr.set_other (a := ⟨w.heap.size + 2, 0, none⟩) (show w.heap.size ≠ w.heap.size + 2 by omega) (.int .i64 ((131 : Nat) : Int))
  have c0 := hP.cell 0
  have cf : ∃ v, (w1.setCell ⟨w.heap.size + 2, 0, none⟩ (.int .i64 ((131 : Nat) : Int))).cell? ⟨j, 6, none⟩ = some v := by
    obtain ⟨v, hv⟩ := ht.flag
    refine ⟨v, ?_⟩
    rw [World.cell?_setCell_other _ _ _ _ (by intro z; cases z)]
    exact hv
  obtain ⟨v, cf⟩ := cf
  have zf : (w1.setCell ⟨w.heap.size + 2, 0, none⟩ (.int .i64 ((131 : Nat) : Int))).frozen? ⟨j, 6, none⟩ = false := by
    rw [World.frozen?_setCell]
    exact ht.free
  have HW : Hid (w1 = tryW w j f caps) := hw
  obtain ⟨W2, hW2⟩ : ∃ W, w1.setCell ⟨w.heap.size + 2, 0, none⟩ (.int .i64 ((131 : Nat) : Int)) = W := ⟨_, rfl⟩
  rw [hW2] at c0 cf zf ⊢
  have hW2' : Hid (w1.setCell ⟨w.heap.size + 2, 0, none⟩ (.int .i64 ((131 : Nat) : Int)) = W2) := hW2
  clear hc hT ht hP hw hne hj hW2
  go_wp2
  go_ret
  exact ⟨rfl, w1, HW.out, by rw [hW2'.out]⟩
end
end Go.Proofs.YtpnpjblohijajabGreat
