/- The contract of the document's Seen. -/
import Derived.Test.YtphlfepgaghhhaaRefOps
namespace Go.Proofs.Ytphlfepgaghhhaa
set_option linter.unusedSimpArgs false
set_option linter.unusedVariables false
set_option maxRecDepth 100000
open Go.RowKit

structure BaseOk (b : BaseV) : Prop where
  seq : ∀ i, (b.last i).seq < 4294967296
  code : ∀ i, (b.last i).r.code < 256
  rdata : ∀ i, (b.last i).r.data.length ≤ 9223372036854775807
  data : ∀ i, (b.obj i).data.length ≤ 1000
  a0 : ∀ i, (b.obj i).a0.length ≤ 1000
  a1 : ∀ i, (b.obj i).a1.length ≤ 1000
  a2 : ∀ i, (b.obj i).a2.length ≤ 1000

theorem last_size (l : LastV) : (Try.prog.info? 30).map (·.size) = some (lastC l).size := by show _ = some 3; kernel_rfl
theorem last_zero : (Try.prog.info? 30).map (·.zero) = some (some (.agg (lastC last0))) := by kernel_rfl
theorem res_bad : Try.prog.built 28 [(0, .int .u8 3)] = some (resC ⟨3, []⟩) := by kernel_rfl

theorem seen_no {b : BaseV} {o : OpV} (h : writesM o = false) : seenM b o = (res0, false) := by unfold seenM; rw [if_neg (by rw [h]; simp)]
theorem seen_new {b : BaseV} {o : OpV} (h : writesM o = true) (hs : (lastOf b o).seq < o.seq) : seenM b o = (res0, false) := by unfold seenM; rw [if_pos h, if_pos hs]
theorem seen_same {b : BaseV} {o : OpV} (h : writesM o = true) (hs : (lastOf b o).seq = o.seq) : seenM b o = ((lastOf b o).r, true) := by unfold seenM; rw [if_pos h, if_neg (by omega), if_pos hs]
theorem seen_old {b : BaseV} {o : OpV} (h : writesM o = true) (hs : o.seq < (lastOf b o).seq) : seenM b o = (⟨3, []⟩, true) := by unfold seenM; rw [if_pos h, if_neg (by omega), if_neg (by omega)]

theorem writes_client {o : OpV} (h : writesM o = true) : 1 ≤ o.client ∧ o.client ≤ 3 ∧ o.obj < 6 ∧ 1 ≤ o.kind ∧ o.kind ≤ 4 ∧ o.data.length ≤ 16 := by
  have h1 := (writes_is o).1 h
  have h2 := (isOp_is o).1 h1.1
  omega

set_option maxHeartbeats 2000000 in
theorem refseen_any (b : BaseV) (o : OpV) (w : World) (hb : BaseOk b) (ho : OpOk o) :
    Calls Try.prog 70 #[.agg (baseC b), .agg (opC o)] w fun e w' => e = .returned (.tuple #[.agg (resC (seenM b o).1), .bool (seenM b o).2]) ∧ Below w.heap.size w w' := by
  have hB0 : ∀ o1 o2, Has (((w.alloc (.cells (baseC b) 33)).alloc o1).alloc o2) w.heap.size 33 (baseC b) := fun o1 o2 => ((Has.new _ _ _).alloc o1).alloc o2
  have hO0 : ∀ o2, Has (((w.alloc (.cells (baseC b) 33)).alloc (.cells (opC o) 35)).alloc o2) (w.heap.size + 1) 35 (opC o) := fun o2 => by
    have := (Has.new (w.alloc (.cells (baseC b) 33)) 35 (opC o)).alloc o2
    simpa using this
  have hR0 : Has (((w.alloc (.cells (baseC b) 33)).alloc (.cells (opC o) 35)).alloc (.cells (resC res0) 28)) (w.heap.size + 1 + 1) 28 (resC res0) := by
    have := Has.new ((w.alloc (.cells (baseC b) 33)).alloc (.cells (opC o) 35)) 28 (resC res0)
    simpa using this
  have hbw : Below w.heap.size w (((w.alloc (.cells (baseC b) 33)).alloc (.cells (opC o) 35)).alloc (.cells (resC res0) 28)) := (((Below.refl _ _).alloc (Nat.le_refl _) _).alloc (by simp) _).alloc (by simp; omega) _
  go_enter Try.func70, Try.ntmps70
  go_wp2_with (first
    | (refine wpList_alloc_has (by rfl) 28 rfl (resC res0) res_zero ?_)
    | (refine wpList_load_has (by rfl) 35 _ rfl _ rfl 35 (opC o) _ Try.underlying35 rfl (op_size o) ?hg ?_; (case hg => exact hO0 _)))
  refine (refwrites_any o _ ho).mono ?_
  rintro e w1 ⟨rfl, hq⟩
  have hB := (hB0 _ _).later hq
  have hO := (hO0 _).later hq
  have hR := hR0.later hq
  replace hbw := hbw.trans (hq.mono hbw.size)
  clear hB0 hO0 hR0 hq
  have hws := hB.lt
  cases hw : writesM o with
  | false =>
    have hs := seen_no (b := b) hw
    go_wp2_with (first
      | (refine wpList_build_has (by rfl) 28 #[] rfl (resC res0) (by simpa using res_built) ?_)
      | (refine wpList_store_has (by rfl) 28 _ _ rfl (w.heap.size + 1 + 1) rfl (resC res0) rfl 28 (resC res0) (res_size _) rfl (res_one _) hR ?_))
    exact ret_has_tmp rfl (w.heap.size + 1 + 1) rfl 28 (resC res0) _ Try.underlying28 rfl (res_size _) (hR.row _) rfl ⟨by rw [hs]; rfl, below_setRow hbw (by omega) _⟩
  | true =>
    obtain ⟨hc1, hc3, _⟩ := writes_client hw
    obtain ⟨k, hk⟩ : ∃ k, o.client = k + 1 := ⟨o.client - 1, by omega⟩
    have hk3 : k < 3 := by omega
    have hkI : (k : Int) < 3 := by omega
    have hl : lastOf b o = b.last ⟨k, hk3⟩ := by
      unfold lastOf
      rw [dif_pos (by omega)]
      congr 1
      exact Fin.ext (by simp [hk])
    have c0 : w1.cell? ⟨w.heap.size + 1, 0, none⟩ = some (.int .u8 ((k : Int) + 1)) := (hO.cell 0).trans (by show some (Value.int .u8 (o.client : Int)) = _; rw [hk]; rfl)
    have hq1 := hb.seq ⟨k, hk3⟩
    have hq2 := ho.seq
    have hrow := hB.last_at ⟨k, hk3⟩
    have hS1 := fun h => seen_new (b := b) (o := o) hw h
    have hS2 := fun h => seen_same (b := b) (o := o) hw h
    have hS3 := fun h => seen_old (b := b) (o := o) hw h
    rw [hl] at hS1 hS2 hS3
    have hM : Has ((w1.alloc (.cells (lastC last0) 30)).setRow w1.heap.size (lastC (b.last ⟨k, hk3⟩))) w1.heap.size 30 (lastC (b.last ⟨k, hk3⟩)) := (Has.new _ _ _).row _
    have hbb := below_setRow ((Below.refl w1.heap.size w1).alloc (Nat.le_refl _) (.cells (lastC last0) 30)) (Nat.le_refl _) (lastC (b.last ⟨k, hk3⟩))
    replace hO := hO.later hbb
    replace hR := hR.later hbb
    have hbw2 := hbw.trans (hbb.mono hbw.size)
    clear hbb hl hk hc1 hc3
    generalize b.last ⟨k, hk3⟩ = L at *
    obtain ⟨lq, ⟨rc, rd⟩⟩ := L
    have hq1 : lq < 4294967296 := hq1
    have m0 : ((w1.alloc (.cells (lastC last0) 30)).setRow w1.heap.size (lastC ⟨lq, ⟨rc, rd⟩⟩)).cell? ⟨w1.heap.size, 0, none⟩ = some (.int .u32 (lq : Int)) := (hM.cell 0).trans rfl
    have o1 : ((w1.alloc (.cells (lastC last0) 30)).setRow w1.heap.size (lastC ⟨lq, ⟨rc, rd⟩⟩)).cell? ⟨w.heap.size + 1, 1, none⟩ = some (.int .u32 (o.seq : Int)) := (hO.cell 1).trans rfl
    have hres := hM.range 1 (resL ⟨rc, rd⟩) (fun j v hj => by
      have hj2 : j < 2 := (List.getElem?_eq_some_iff.1 hj).1
      match j, hj2 with
      | 0, _ => exact hj
      | 1, _ => exact hj)
    clear hB hbw hM
    rcases Nat.lt_trichotomy lq o.seq with h1 | h1 | h1
    · have hs : Hid _ := hS1 h1
      have h1I : (lq : Int) < (o.seq : Int) := by omega
      clear hS1 hS2 hS3 h1
      go_wp2_with (first
        | (refine wpList_load_mid' (by rfl) 30 _ rfl w.heap.size (30 + k * 3) rfl (lastL ⟨lq, ⟨rc, rd⟩⟩) _ hrow Try.underlying30 rfl (last_size ⟨lq, ⟨rc, rd⟩⟩) ?_)
        | (refine wpList_alloc_has (by rfl) 30 rfl (lastC last0) last_zero ?_)
        | (refine wpList_store_has (by rfl) 30 _ _ rfl w1.heap.size rfl (lastC ⟨lq, ⟨rc, rd⟩⟩) rfl 30 (lastC last0) (last_size _) rfl (last_one _) (Has.new _ _ _) ?_; generalize (w1.alloc (.cells (lastC last0) 30)).setRow w1.heap.size (lastC ⟨lq, ⟨rc, rd⟩⟩) = w2 at *; generalize w1.heap.size = gl at *)
        | (refine wpList_build_has (by rfl) 28 #[] rfl (resC res0) (by simpa using res_built) ?_)
        | (refine wpList_build_has (by rfl) 28 _ rfl (resC ⟨3, []⟩) (by simpa using res_bad) ?_)
        | (refine wpList_load_mid' (by rfl) 28 _ rfl gl 1 rfl (resL ⟨rc, rd⟩) _ hres Try.underlying28 rfl (res_size ⟨rc, rd⟩) ?_)
        | (refine wpList_store_has (by rfl) 28 _ _ rfl (w.heap.size + 1 + 1) rfl (resC (res0)) rfl 28 (resC res0) (res_size _) rfl (res_one _) hR ?_))
      exact ret_has_tmp rfl (w.heap.size + 1 + 1) rfl 28 (resC (res0)) _ Try.underlying28 rfl (res_size _) (hR.row _) rfl ⟨by rw [hs.out]; rfl, below_setRow hbw2 (by omega) _⟩
    · have hs : Hid _ := hS2 h1
      have h1I : ¬ ((lq : Int) < (o.seq : Int)) := by omega
      have h2I : ((lq : Int) == (o.seq : Int)) = true := by rw [beq_iff_eq]; omega
      rw [← h1] at o1 h1I h2I
      clear hS1 hS2 hS3 h1
      go_wp2_with (first
        | (refine wpList_load_mid' (by rfl) 30 _ rfl w.heap.size (30 + k * 3) rfl (lastL ⟨lq, ⟨rc, rd⟩⟩) _ hrow Try.underlying30 rfl (last_size ⟨lq, ⟨rc, rd⟩⟩) ?_)
        | (refine wpList_alloc_has (by rfl) 30 rfl (lastC last0) last_zero ?_)
        | (refine wpList_store_has (by rfl) 30 _ _ rfl w1.heap.size rfl (lastC ⟨lq, ⟨rc, rd⟩⟩) rfl 30 (lastC last0) (last_size _) rfl (last_one _) (Has.new _ _ _) ?_; generalize (w1.alloc (.cells (lastC last0) 30)).setRow w1.heap.size (lastC ⟨lq, ⟨rc, rd⟩⟩) = w2 at *; generalize w1.heap.size = gl at *)
        | (refine wpList_build_has (by rfl) 28 #[] rfl (resC res0) (by simpa using res_built) ?_)
        | (refine wpList_build_has (by rfl) 28 _ rfl (resC ⟨3, []⟩) (by simpa using res_bad) ?_)
        | (refine wpList_load_mid' (by rfl) 28 _ rfl gl 1 rfl (resL ⟨rc, rd⟩) _ hres Try.underlying28 rfl (res_size ⟨rc, rd⟩) ?_)
        | (refine wpList_store_has (by rfl) 28 _ _ rfl (w.heap.size + 1 + 1) rfl (resC (⟨rc, rd⟩ : ResV)) rfl 28 (resC res0) (res_size _) rfl (res_one _) hR ?_))
      exact ret_has_tmp rfl (w.heap.size + 1 + 1) rfl 28 (resC (⟨rc, rd⟩ : ResV)) _ Try.underlying28 rfl (res_size _) (hR.row _) rfl ⟨by rw [hs.out]; rfl, below_setRow hbw2 (by omega) _⟩
    · have hs : Hid _ := hS3 h1
      have h1I : ¬ ((lq : Int) < (o.seq : Int)) := by omega
      have h2I : ((lq : Int) == (o.seq : Int)) = false := by rw [beq_eq_false_iff_ne]; omega
      have h3 : (lq == o.seq) = false := by rw [beq_eq_false_iff_ne]; omega
      clear hS1 hS2 hS3 h1
      go_wp2_with (first
        | (refine wpList_load_mid' (by rfl) 30 _ rfl w.heap.size (30 + k * 3) rfl (lastL ⟨lq, ⟨rc, rd⟩⟩) _ hrow Try.underlying30 rfl (last_size ⟨lq, ⟨rc, rd⟩⟩) ?_)
        | (refine wpList_alloc_has (by rfl) 30 rfl (lastC last0) last_zero ?_)
        | (refine wpList_store_has (by rfl) 30 _ _ rfl w1.heap.size rfl (lastC ⟨lq, ⟨rc, rd⟩⟩) rfl 30 (lastC last0) (last_size _) rfl (last_one _) (Has.new _ _ _) ?_; generalize (w1.alloc (.cells (lastC last0) 30)).setRow w1.heap.size (lastC ⟨lq, ⟨rc, rd⟩⟩) = w2 at *; generalize w1.heap.size = gl at *)
        | (refine wpList_build_has (by rfl) 28 #[] rfl (resC res0) (by simpa using res_built) ?_)
        | (refine wpList_build_has (by rfl) 28 _ rfl (resC ⟨3, []⟩) (by simpa using res_bad) ?_)
        | (refine wpList_load_mid' (by rfl) 28 _ rfl gl 1 rfl (resL ⟨rc, rd⟩) _ hres Try.underlying28 rfl (res_size ⟨rc, rd⟩) ?_)
        | (refine wpList_store_has (by rfl) 28 _ _ rfl (w.heap.size + 1 + 1) rfl (resC (⟨3, []⟩ : ResV)) rfl 28 (resC res0) (res_size _) rfl (res_one _) hR ?_))
      exact ret_has_tmp rfl (w.heap.size + 1 + 1) rfl 28 (resC (⟨3, []⟩ : ResV)) _ Try.underlying28 rfl (res_size _) (hR.row _) rfl ⟨by rw [hs.out]; rfl, below_setRow hbw2 (by omega) _⟩
end Go.Proofs.Ytphlfepgaghhhaa
