/- paddocklaw9.known returns true, where package history answers as it has to. Slices of ints: the rest behind the first. -/
import Derived.Test.YtlbokkbngbpmiaaChooseIv
import Derived.Test.YtlbokkbngbpmiaaChooseBest
import Derived.Test.YtlbokkbngbpmiaaPackTools
import Derived.KernelRfl
namespace Go.Proofs.Ytlbokkbngbpmiaa
set_option linter.unusedSimpArgs false
set_option linter.unusedVariables false
set_option maxRecDepth 100000
open Go.RowKit

section
variable {P : Program} {ops : Array Oper} {rest : List Oper} {o : Oper} {a : Act} {w : World} {Q : Exit → Act → World → Prop}
theorem wpList_slice_vs9 (hw : Region.wanted o (yielded ops a.tmps) = true) (t : TypeId) (n : Nat) (parts : Array (Nat × Operand)) (ho : o.op = .buildSlice t n parts) (vs : Array (Nat × Value)) (hp : (parts.map fun (i, x) => (i, a.eval x)) = vs) (v : Value) (W : World) (hr : (Instr.buildSlice t n vs).run P w = .ok v W)
    (h : wpList P ops Q rest (a.put o.dst v) W) : wpList P ops Q (o :: rest) a w := by
  refine BigFrame.wpList_want hw fun K hK => ?_
  have e : (execOp a.eval o).run P w = .ok (.value v) W := by
    unfold execOp
    simp only [ho]
    simp only [hp, Sem.run_bind, hr, Result.andThen_ok, Sem.run_pure]
  unfold Oper.wp
  rw [e]
  exact hK _ _ h
theorem wpList_slice_two9 (hw : Region.wanted o (yielded ops a.tmps) = true) (t : TypeId) (x y : Operand) (ho : o.op = .buildSlice t 2 #[(0, x), (1, y)]) (p q : Value) (hx : a.eval x = p) (hy : a.eval y = q) (v : Value) (W : World) (hr : (Instr.buildSlice t 2 #[(0, p), (1, q)]).run P w = .ok v W)
    (h : wpList P ops Q rest (a.put o.dst v) W) : wpList P ops Q (o :: rest) a w :=
  wpList_slice_vs9 hw t 2 _ ho #[(0, p), (1, q)] (by simp [hx, hy]) v W hr h
end

def stsC (l : List StE) : Array Value := (rowsS l).flatten.toArray
theorem sts_two (p q : StE) (w : World) : (Instr.buildSlice 23 2 #[(0, .agg (stC p.st p.ao p.c)), (1, .agg (stC q.st q.ao q.c))]).run Try.prog w = .ok (.slice (some ⟨w.heap.size, 0, none⟩) 2 2) (w.alloc (.cells (stsC [p, q]) 63)) := by
  have h : (Instr.buildSlice 23 2 #[(0, .agg (stC p.st p.ao p.c)), (1, .agg (stC q.st q.ao q.c))]).run Try.prog w = ((newRow 63 (stsC [p, q])).run Try.prog w).andThen (fun a w => .ok (.slice (some a) 2 2) w) := by kernel_rfl
  rw [h]
  simp [newRow, run_newObj_alloc, Sem.run_bind, Sem.run_pure, Result.andThen]
theorem sts_sl (l : List StE) (hl : l.length ≤ 1000) (w : World) : Sl (w.alloc (.cells (stsC l) 63)) (some ⟨w.heap.size, 0, none⟩) l.length 49 (rowsS l) := by
  have h := Sl.of_block (sz := 49) (rows := rowsS l) (Has.new w 63 (stsC l)) (fun r hr => by obtain ⟨x, _, rfl⟩ := List.mem_map.1 hr; rfl) (by rw [rowsS_len]; omega)
  rw [rowsS_len] at h
  exact h
theorem ix_new (xs : List Int) (w : World) (hl : xs.length ≤ 1000) : Ix (w.alloc (.cells (intsC xs).toArray 3)) (some ⟨w.heap.size, 0, none⟩) xs.length xs := by
  refine ⟨Nat.le_refl _, by omega, (fun h => by cases h), fun ad had j hj => ?_⟩
  obtain rfl := Option.some.inj had
  have hc := (Has.new w 3 (intsC xs).toArray).cell j
  rw [Addr.add_mid, Nat.zero_add, hc]
  unfold intsC
  simp [hj]

/-- The rest of a slice of int behind its first one. -/
def tlAddr (ao : Option Addr) (c : Nat) : Option Addr := if c = 1 then ao else ao.map (·.add 1)
theorem ints_elem : Try.prog.elem 22 = 3 := by kernel_rfl
theorem ints_under : Try.prog.underlying 22 = some (.slice (Try.prog.elem 22)) := by rw [ints_elem]; exact Try.underlying22
theorem int_sizeOf (w : World) : (sizeOf 3).run Try.prog w = .ok 1 w := by
  have h : (Try.prog.info? 3).map (·.size) = some 1 := by kernel_rfl
  cases hq : Try.prog.info? 3 with
  | none => simp [hq] at h
  | some i =>
    have hs : i.size = 1 := by simpa [hq] using h
    simp [sizeOf, typeInfo, hq, hs, Sem.run_bind]
theorem run_tl (w : World) (ao : Option Addr) (n c : Nat) (h : n + 1 ≤ c) : (Instr.slice 22 (.slice ao (n + 1) c) (some (.int .i64 1)) none none).run Try.prog w = .ok (.slice (tlAddr ao c) n (c - 1)) w := by
  rw [run_slice_l w 22 ao (n + 1) c ints_under .i64 1 (by omega) (by omega), ints_elem, int_sizeOf]
  unfold tlAddr
  simp [sliced, Result.andThen]
theorem Ix.tl {w : World} {ao : Option Addr} {c : Nat} {x : Int} {xs : List Int} (h : Ix w ao c (x :: xs)) : Ix w (tlAddr ao c) (c - 1) xs := by
  have hle := h.le
  rw [List.length_cons] at hle
  have hcap := h.cap
  refine ⟨by omega, by omega, fun hn => ?_, fun ad had j hj => ?_⟩
  · unfold tlAddr at hn
    split at hn
    · omega
    · cases ao with
      | none => have := h.nil rfl; omega
      | some a => cases hn
  · unfold tlAddr at had
    split at had
    · omega
    · cases ao with
      | none => cases had
      | some a =>
        obtain rfl := Option.some.inj had
        have := h.at' a rfl (j + 1) (by rw [List.length_cons]; omega)
        rw [Go.Deep.add_add, Nat.add_comm 1 j, this]
        simp

theorem act0 : (nowH [] 0).length = 3 := by kernel_rfl
theorem best_31 : bestM9 [3, 1] (stsOf [⟨st0, none, 0⟩, ⟨st0, none, 0⟩]) = 1 := by kernel_rfl
theorem best_00 : bestM9 [] (stsOf []) = -1 := by kernel_rfl
theorem enough_0 : enoughM (ivals [] 0) (nowH [] 0) 0 = true := by kernel_rfl
theorem enough_1 : enoughM (ivals [] 0) (nowH [] 0).tail 0 = false := by kernel_rfl
theorem serves_0 : servesM (ivals [] 0) = true := by kernel_rfl
theorem lacks_0 : lacksM (ivals [] 0) [] 0 = [] := by kernel_rfl
def stAt (n : Nat) : StV := ⟨n, base0, ent0, []⟩
theorem started_42 : startedM (stsOf [⟨stAt 4, none, 0⟩, ⟨stAt 2, none, 0⟩]) = 4 := by kernel_rfl
theorem st_at_built (n : Nat) : Try.prog.built 63 [(0, .int .u32 (n : Int))] = some (stC (stAt n) none 0) := by kernel_rfl
theorem st_0_built : Try.prog.built 63 [] = some (stC st0 none 0) := by kernel_rfl

theorem stAt_ok (n : Nat) (h : n < 4294967296) : StOk (stAt n) := ⟨h, base0_ok.in', ⟨by show 0 < _; decide, by show 0 < _; decide, op0_ok⟩, (fun e he => by cases he), by show 0 ≤ _; decide⟩
theorem st0_ok9 : StOk st0 := stAt_ok 0 (by decide)
theorem two_sts (p q : StE) (w : World) (hp : StOk p.st ∧ p.st.log = [] ∧ p.ao = none ∧ p.c = 0) (hq : StOk q.st ∧ q.st.log = [] ∧ q.ao = none ∧ q.c = 0) : StS (w.alloc (.cells (stsC [p, q]) 63)) (some ⟨w.heap.size, 0, none⟩) 2 [p, q] := by
  refine ⟨sts_sl [p, q] (by show 2 ≤ 1000; decide) w, fun x hx => ?_⟩
  rcases List.mem_cons.1 hx with rfl | hx
  · exact ⟨hp.1, by rw [hp.2.1, hp.2.2.1, hp.2.2.2]; exact Sl.nothing _ _⟩
  · obtain rfl := List.mem_singleton.1 hx
    exact ⟨hq.1, by rw [hq.2.1, hq.2.2.1, hq.2.2.2]; exact Sl.nothing _ _⟩

set_option maxHeartbeats 4000000 in
theorem known9_any {Is : World → Nat → List IncV → (Nat → Prop) → Prop} (S : HistSpec Is) (w : World) : Calls Try.prog 9 #[] w fun e w' => e = .returned (.bool true) ∧ Below w.heap.size w w' := by
  go_enter Try.func9, Try.ntmps9
  go_wp2_with fail
  refine (S.new _).mono ?_
  rintro e w1 ⟨p, F, rfl, hI, hF, hb⟩
  have hpt : ptr p = .pointer (some ⟨p, 0, none⟩) := rfl
  rw [hpt]
  go_wp2_with fail
  refine (S.acting 0 hI (by decide)).mono ?_
  rintro e w2 ⟨ao, c, rfl, hA, hq, _⟩
  replace hI := S.later hI hq
  replace hb := hb.trans (hq.mono hb.size)
  clear hq
  have hA3 := act0
  have hen0 := enough_0
  have hen1 := enough_1
  generalize nowH [] 0 = A at *
  have hAle := hA.le
  have hAcap := hA.cap
  obtain ⟨x, A', rfl⟩ : ∃ x A', A = x :: A' := by
    cases A with
    | nil => cases hA3
    | cons x A' => exact ⟨x, A', rfl⟩
  have hA2 : A'.length = 2 := by simpa using hA3
  rw [hA3]
  have htl := fun W => run_tl W ao 2 c (by omega)
  have hT := hA.tl
  have hi3 : ∀ W : World, W.alloc (.cells #[.int .i64 3, .int .i64 1] 3) = W.alloc (.cells (intsC [3, 1]).toArray 3) := fun _ => rfl
  obtain ⟨w3, hw3⟩ : ∃ W, (w2.alloc (.cells #[.int .i64 3, .int .i64 1] 3)) = W := ⟨_, rfl⟩
  have hX3 : Ix w3 (some ⟨w2.heap.size, 0, none⟩) 2 [3, 1] := by rw [← hw3]; exact ix_new [3, 1] w2 (by decide)
  have hb3 : Below w2.heap.size w2 w3 := by rw [← hw3]; exact (Below.refl _ _).alloc (Nat.le_refl _) _
  obtain ⟨w4, hw4⟩ : ∃ W, w3.alloc (.cells (stsC [⟨st0, none, 0⟩, ⟨st0, none, 0⟩]) 63) = W := ⟨_, rfl⟩
  have hS4 : StS w4 (some ⟨w3.heap.size, 0, none⟩) 2 [⟨st0, none, 0⟩, ⟨st0, none, 0⟩] := by rw [← hw4]; exact two_sts _ _ _ ⟨st0_ok9, rfl, rfl, rfl⟩ ⟨st0_ok9, rfl, rfl, rfl⟩
  have hb4 : Below w3.heap.size w3 w4 := by rw [← hw4]; exact (Below.refl _ _).alloc (Nat.le_refl _) _
  replace hX3 := hX3.later hb4
  have hb24 := hb3.trans (hb4.mono hb3.size)
  have hst := sts_two ⟨st0, none, 0⟩ ⟨st0, none, 0⟩ w3
  rw [hw4] at hst
  replace hI := S.later hI hb24
  replace hA := hA.later hb24
  replace hT := hT.later hb24
  replace hb := hb.trans (hb24.mono hb.size)
  clear hb3 hb4 hb24 hi3
  go_wp2_with (first
    | (refine wpList_build_has (by rfl) 63 _ rfl (stC st0 none 0) st_0_built ?_)
    | (refine wpList_slice_two9 (by rfl) 23 _ _ rfl (.agg (stC st0 none 0)) (.agg (stC st0 none 0)) rfl rfl (.slice (some ⟨w3.heap.size, 0, none⟩) 2 2) w4 ?hg ?_; (case hg => exact hst)))
  have hB := Best_any (some ⟨w2.heap.size, 0, none⟩) 2 [3, 1] (some ⟨w3.heap.size, 0, none⟩) 2 [⟨st0, none, 0⟩, ⟨st0, none, 0⟩] w4 hX3 hS4 (by show 2 ≤ _; decide) (by show 2 ≤ _; decide)
  rw [best_31] at hB
  refine hB.mono ?_
  rintro e w5 ⟨rfl, hq⟩
  replace hI := S.later hI hq
  replace hA := hA.later hq
  replace hT := hT.later hq
  replace hb := hb.trans (hq.mono hb.size)
  clear hq
  clear hB hS4 hX3 hw3 hw4 hst
  have hB := Best_any none 0 [] none 0 [] w5 (Ix.nothing _) (StS.nothing _) (Nat.zero_le _) (Nat.zero_le _)
  rw [best_00] at hB
  go_wp2_with fail
  refine hB.mono ?_
  rintro e w6 ⟨rfl, hq⟩
  replace hI := S.later hI hq
  replace hA := hA.later hq
  replace hT := hT.later hq
  replace hb := hb.trans (hq.mono hb.size)
  clear hq
  clear hB
  have hE := Enough_any S 0 ao c (x :: A') 0 hI (by decide) hA (by rw [hA3]; decide) (by decide)
  rw [hen0, hA3, hpt] at hE
  go_wp2_with fail
  refine hE.mono ?_
  rintro e w7 ⟨rfl, hq⟩
  replace hI := S.later hI hq
  replace hA := hA.later hq
  replace hT := hT.later hq
  replace hb := hb.trans (hq.mono hb.size)
  clear hq
  clear hE
  have hE := Enough_any S 0 (tlAddr ao c) (c - 1) A' 0 hI (by decide) hT (by rw [hA2]; decide) (by decide)
  rw [show enoughM (ivals [] 0) A' 0 = false from hen1, hA2, hpt] at hE
  go_wp2_with fail
  refine hE.mono ?_
  rintro e w8 ⟨rfl, hq⟩
  replace hI := S.later hI hq
  replace hA := hA.later hq
  replace hT := hT.later hq
  replace hb := hb.trans (hq.mono hb.size)
  clear hq
  clear hE hA hT
  have hE := Serves_any S 0 hI (by decide)
  rw [serves_0, hpt] at hE
  go_wp2_with fail
  refine hE.mono ?_
  rintro e w9 ⟨rfl, hq⟩
  replace hI := S.later hI hq
  replace hb := hb.trans (hq.mono hb.size)
  clear hq hE
  have hE := Lacks_any S 0 none 0 [] 0 hI (by decide) (Ix.nothing _) (Nat.zero_le _) (by decide)
  rw [lacks_0, hpt] at hE
  go_wp2_with fail
  refine hE.mono ?_
  rintro e w10 ⟨ro, rc, rfl, hR, hq⟩
  replace hb := hb.trans (hq.mono hb.size)
  have hRc := hR.cap
  clear hq hE hI hR
  obtain ⟨w11, hw11⟩ : ∃ W, w10.alloc (.cells (stsC [⟨stAt 4, none, 0⟩, ⟨stAt 2, none, 0⟩]) 63) = W := ⟨_, rfl⟩
  have hS4 : StS w11 (some ⟨w10.heap.size, 0, none⟩) 2 [⟨stAt 4, none, 0⟩, ⟨stAt 2, none, 0⟩] := by rw [← hw11]; exact two_sts _ _ _ ⟨stAt_ok 4 (by decide), rfl, rfl, rfl⟩ ⟨stAt_ok 2 (by decide), rfl, rfl, rfl⟩
  have hb4 : Below w10.heap.size w10 w11 := by rw [← hw11]; exact (Below.refl _ _).alloc (Nat.le_refl _) _
  replace hb := hb.trans (hb4.mono hb.size)
  have hst := sts_two ⟨stAt 4, none, 0⟩ ⟨stAt 2, none, 0⟩ w10
  rw [hw11] at hst
  go_wp2_with (first
    | (refine wpList_build_has (by rfl) 63 _ rfl (stC (stAt 4) none 0) (st_at_built 4) ?_)
    | (refine wpList_build_has (by rfl) 63 _ rfl (stC (stAt 2) none 0) (st_at_built 2) ?_)
    | (refine wpList_slice_two9 (by rfl) 23 _ _ rfl (.agg (stC (stAt 4) none 0)) (.agg (stC (stAt 2) none 0)) rfl rfl (.slice (some ⟨w10.heap.size, 0, none⟩) 2 2) w11 ?hg ?_; (case hg => exact hst)))
  have hE := Started_any (some ⟨w10.heap.size, 0, none⟩) 2 [⟨stAt 4, none, 0⟩, ⟨stAt 2, none, 0⟩] w11 hS4 (by show 2 ≤ _; decide)
  rw [started_42] at hE
  refine hE.mono ?_
  rintro e w12 ⟨rfl, hq⟩
  replace hb := hb.trans (hq.mono hb.size)
  go_wp2
  go_ret
  exact ⟨rfl, hb⟩
end Go.Proofs.Ytlbokkbngbpmiaa
