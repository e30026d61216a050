/- Of every state the program puts the very bytes that the document puts, reads of whatever bytes what the document reads, and reads back what it put with whatever behind it: WireStates answers true for every state and all bytes. Condition: the row of the library that errors.As reads is as it was laid. -/
import Derived.Test.YtecilienolabfaaGreatDoorRows
import Derived.Test.YtecilienolabfaaGreatDoorCards
import Derived.Test.YtecilienolabfaaGreatDoorTie
import Derived.Test.YtecilienolabfaaGreatDoorStatesLaw12
import Derived.Test.YtecilienolabfaaGreatDoorOpenBytes
import Derived.Below
import Derived.Carry
import Derived.ChangeOld
import Derived.WalkKit
import Derived.ProofKit
import Derived.OpenShut
import Derived.ShutString
import Derived.LaidMore
import Derived.SevenTiedAt
import Derived.Stop.Joined
import Derived.LaidHandle
namespace Go.Proofs.YtecilienolabfaaGreatDoor
open Go.ChangeShapes Go.WideShapes Go.ChangeAt Go.RowKit
open Go.ChangeMaps (open_string shut_string)
set_option linter.unusedVariables false
set_option maxRecDepth 100000

theorem wireStates_own : ownKnob Tryz.prog.godebug = none := by kernel_rfl
theorem wireStates_laidOut : laidOutB Tryz.prog = true := by kernel_rfl

/-- The heap that the start of the program leaves meets what the row lists. -/
theorem wireStates_met (os : Os) (args : Array Value) : laidMetH Tryz.prog Rows.wireStatesRow.laid ((World.doorLaid Tryz.prog 400 os).forCall (fun _ _ => 0) ⟨#[], args, []⟩).memory :=
  laidMetH_of_parts (laidMet_nil _ _) (by kernel_rfl)

/-- What the condition gives a walk: the variable is as it was laid. -/
theorem wireStates_laid {W : World} (h : laidMetH Tryz.prog Rows.wireStatesRow.laid W) : Laid W := by
  have h' : laidMet Tryz.prog [] W ∧ handlesMet Tryz.prog Rows.wireStatesRow.laid W := h
  have eG : Tryz.prog.globalNamed "errors.errorType" = some 0 := by kernel_rfl
  have eR : (Tryz.prog.cutTypes.find? (·.1 == "internal/reflectlite.rtype")).map (·.2) = some 183 := by kernel_rfl
  have eO : ((List.range 233).filter fun t => Tryz.prog.rowNamed t [101, 114, 114, 111, 114]) = [140] := by kernel_rfl
  have eS : Tryz.prog.types.size = 233 := by kernel_rfl
  obtain ⟨name, u, ty, e1, e2, e3, e4, e5⟩ := h'.2 _ (List.mem_singleton.2 rfl)
  have en : name = [101, 114, 114, 111, 114] := (Option.some.inj e1).symm
  subst en
  obtain rfl := Option.some.inj (eR.symm.trans e2)
  have hm : ty ∈ (List.range 233).filter fun t => Tryz.prog.rowNamed t [101, 114, 114, 111, 114] := List.mem_filter.2 ⟨List.mem_range.2 (by rw [← eS]; exact e3), e4⟩
  rw [eO] at hm
  obtain rfl := List.mem_singleton.1 hm
  have hh : typeHandle Tryz.prog 140 = .pointer (some ⟨1, 140, none⟩) := by kernel_rfl
  rw [hh] at e5
  unfold Laid
  simpa using World.var?_cell eG e5 0

theorem wireStates_walk {H : Type} {enc : TypeId × Value → H} {W : World} {base : Nat} {v0 : Value} {d0 : DataW H} {p0 : List MemPlace} {v1 : Value} {d1 : DataW H} {p1 : List MemPlace} {v2 : Value} {d2 : DataW H} {p2 : List MemPlace}
    (ok0 : Value.okWide Tryz.prog W .any base 44 v0) (h0 : DataW.Trod enc Tryz.prog W 0 (fun _ => true) true 44 v0 d0 p0) (ok1 : Value.okWide Tryz.prog W .any base 51 v1) (h1 : DataW.Trod enc Tryz.prog W 0 (fun _ => true) true 51 v1 d1 p1) (ok2 : Value.okWide Tryz.prog W .any base 51 v2) (h2 : DataW.Trod enc Tryz.prog W 0 (fun _ => true) true 51 v2 d2 p2)
    (hsz : (DataW.weightsEach Tryz.prog [44, 51, 51] [d0, d1, d2]).all (· ≤ reachBytes) = true) (hL : Laid W) :
    Calls Tryz.prog 6 #[v0, v1, v2] W fun e w' => e = .returned (.bool true) ∧ Below W.heap.size W w' := by
  obtain ⟨s, a1, c1, rfl, hs, s1⟩ := open_st ok0 h0
  obtain ⟨a2, c2, mo, rfl, b2, _⟩ := open_bytes ok1 h1
  obtain ⟨a3, c3, ra, rfl, b3, t3⟩ := open_bytes ok2 h2
  exact states_walk s a1 a2 a3 c1 c2 c3 mo ra W hs s1 b2 b3 t3 hL

set_option maxRecDepth 100000 in
theorem wireStates_lifted (os : Os) (started : os.Started) (H : Type) (enc : TypeId × Value → H) :
    ReturnsInHanded {} Tryz.checked os 6 .any (fun w args => (Rows.wireStatesSpec.pre enc Tryz.prog Tryz.f6 [] false w args ∧ laidMetH Tryz.prog Rows.wireStatesRow.laid w) ∧ sizedMet enc Tryz.prog Tryz.f6 (OpenSpec.ofChange Rows.wireStatesSpec) false w args) (Rows.wireStatesSpec.post enc Tryz.prog Tryz.f6 false true false false) := by
  refine returnsInHanded_of_change_and (C := Tryz.checked) (X := fun w _ => laidMetH Tryz.prog Rows.wireStatesRow.laid w) (fun _ _ _ hh h => h.of_heap hh) wireStates_own started (by kernel_rfl) Tryz.func6
    (ChangeSpec.witness_shaped (enc := enc) (C := Tryz.checked) (os := os) (X := fun w _ => laidMetH Tryz.prog Rows.wireStatesRow.laid w) false (World.doorLaid Tryz.prog 400 os) #[.agg #[.int .u32 0, .bool false, .string ByteArray.empty, .string ByteArray.empty, .string ByteArray.empty, .string ByteArray.empty, .bool false, .string ByteArray.empty, .string ByteArray.empty, .string ByteArray.empty, .string ByteArray.empty, .bool false, .string ByteArray.empty, .string ByteArray.empty, .string ByteArray.empty, .string ByteArray.empty, .bool false, .string ByteArray.empty, .string ByteArray.empty, .string ByteArray.empty, .string ByteArray.empty, .bool false, .string ByteArray.empty, .string ByteArray.empty, .string ByteArray.empty, .string ByteArray.empty, .bool false, .string ByteArray.empty, .string ByteArray.empty, .string ByteArray.empty, .string ByteArray.empty, .int .u32 0, .int .u8 0, .string ByteArray.empty, .int .u32 0, .int .u8 0, .string ByteArray.empty, .int .u32 0, .int .u8 0, .string ByteArray.empty, .int .u32 0, .int .u32 0, .int .u8 0, .int .u32 0, .int .u8 0, .int .u8 0, .int .u8 0, .string ByteArray.empty, .slice none 0 0], .slice none 0 0, .slice none 0 0] 8 rfl (World.shaped_of_RefB (by kernel_rfl) (by kernel_rfl)) (by kernel_rfl) (by kernel_rfl) (by kernel_rfl) (wireStates_met os _)) ?_
  intro W base args ds gs before hval0 hW _ hsz0 hLa _
  have hval : ∀ (j : Nat) t v, Tryz.f6.params[j]? = some t → args[j]? = some v → Value.okWide Tryz.prog W .any base t v := hval0
  have hW' := hW
  obtain ⟨p, q, hA0, hV, rfl, hfz, hnd⟩ := hW
  have hA : DataW.TrodAll enc Tryz.prog W 0 (fun _ => true) true Tryz.f6.params.toList args.toList ds p := hA0
  rw [Tryz.params6] at hA hval hsz0
  obtain ⟨v0, vs0, d0, ds0, p0, q0, hargs, rfl, rfl, h0, r0⟩ := trodAll_cons hA
  obtain ⟨v1, vs1, d1, ds1, p1, q1, rfl, rfl, rfl, h1, r1⟩ := trodAll_cons r0
  obtain ⟨v2, vs2, d2, ds2, p2, q2, rfl, rfl, rfl, h2, r2⟩ := trodAll_cons r1
  obtain ⟨rfl, rfl, rfl⟩ := trodAll_nil r2
  obtain rfl : args = #[v0, v1, v2] := by cases args; simp_all
  obtain ⟨rfl, rfl⟩ := trodVars_none hV
  have hsz : (DataW.weightsEach Tryz.prog [44, 51, 51] [d0, d1, d2]).all (· ≤ reachBytes) = true := hsz0
  have lt0 : ∀ x ∈ p0, x.block < W.heap.size := by obtain ⟨m, hm⟩ := h0; exact DataW.trod_lt m _ _ _ hm
  have lt1 : ∀ x ∈ p1, x.block < W.heap.size := by obtain ⟨m, hm⟩ := h1; exact DataW.trod_lt m _ _ _ hm
  have lt2 : ∀ x ∈ p2, x.block < W.heap.size := by obtain ⟨m, hm⟩ := h2; exact DataW.trod_lt m _ _ _ hm
  refine (wireStates_walk (hval 0 44 v0 rfl rfl) h0 (hval 1 51 v1 rfl rfl) h1 (hval 2 51 v2 rfl rfl) h2 hsz (wireStates_laid hLa)).mono fun e W' ⟨he, bel⟩ => ?_
  subst he
  exact ⟨_, rfl, _, _, _, [], _, [], hW', trodAll_mk1 (shut_bool Tryz.underlying4 _), (trodAll_cons_mk (Below.trod wireStates_laidOut (by kernel_rfl) (of_decide_eq_true (by kernel_rfl)) h0 bel lt0) (trodAll_cons_mk (Below.trod wireStates_laidOut (by kernel_rfl) (of_decide_eq_true (by kernel_rfl)) h1 bel lt1) (trodAll_cons_mk (Below.trod wireStates_laidOut (by kernel_rfl) (of_decide_eq_true (by kernel_rfl)) h2 bel lt2) trodAll_mk0))), rfl, bel.frame _, fun h => by cases h⟩

theorem wireStates_over : Rows.wireStatesRow.holds Tryz.pinned (OpenSpec.ofChange Rows.wireStatesSpec) :=
  OpenClaim.holds_of_wide 6 Tryz.f6 rfl rfl rfl rfl rfl rfl rfl ⟨rfl, rfl, rfl, rfl, rfl⟩ rfl rfl rfl rfl rfl (by kernel_rfl) Tryz.func6 (by kernel_rfl)
    (of_decide_eq_true (by kernel_rfl)) (by unfold Func.isWrapper; first | (rw [if_pos (by decide +kernel)]; kernel_rfl) | (rw [if_neg (by decide +kernel)]; exact ⟨rfl, rfl⟩))
    (fun os started H enc _ => wireStates_lifted os started H enc)

/-- The given statement: the tied card. -/
theorem wireStates_proved : Rows.WireStatesCardSaid :=
  Claim7.holds_tied_plain_at .later [] [.handle] true Rows.wireStatesCard.stood.harness true
    wireStates_over (fun _ h => by cases h) (by kernel_rfl) (fun _ h => by cases h) wireStates_row_tie rfl ⟨rfl, rfl⟩ (by kernel_rfl) rfl
    (fun f fn hf hfn => by
      obtain rfl : f = 6 := Option.some.inj ((show Tryz.prog.funcNamed Rows.wireStatesRow.func = some 6 by kernel_rfl).symm.trans hf) |>.symm
      obtain rfl : fn = Tryz.f6 := (Option.some.inj (Tryz.func6.symm.trans hfn)).symm
      exact ⟨by kernel_rfl, fun j t ht => by
        rw [Tryz.params6] at ht
        have hm : t ∈ [44, 51, 51] := by simpa using Array.mem_of_getElem? ht
        have hall : ([44, 51, 51].all fun u => !Tryz.prog.wantsStandIn u) = true := by kernel_rfl
        exact (show Tryz.prog.wantsStandIn t = false by simpa using List.all_eq_true.1 hall t hm)⟩)
    (by kernel_rfl)
#print axioms wireStates_proved
end Go.Proofs.YtecilienolabfaaGreatDoor
