/- JnlHead, joined. -/
import Derived.Test.YtpnpjblohijajabGreatGrp8
import Derived.Test.YtpnpjblohijajabGreatGrp4
import Derived.Test.YtpnpjblohijajabGreatGrp12
import Derived.Great.Ranges
import Derived.Lib.SlBytesConst
namespace Go.Proofs.YtpnpjblohijajabGreat
section
set_option linter.unusedSimpArgs false
set_option linter.unusedVariables false
set_option maxRecDepth 100000
open Go.RowKit Go.MapKept

theorem Has.hd_num {w : World} {g : Nat} {t : TypeId} {h : HdV} (k : Has w g t (hdC h)) : w.cell? ⟨g, 0, none⟩ = some (.int .u64 (h.num : Int)) := (k.cell 0).trans rfl
theorem Has.hd_half {w : World} {g : Nat} {t : TypeId} {h : HdV} (k : Has w g t (hdC h)) : w.cell? ⟨g, 1, none⟩ = some (.int .i64 (h.half : Int)) := (k.cell 1).trans rfl
theorem Has.hd_len {w : World} {g : Nat} {t : TypeId} {h : HdV} (k : Has w g t (hdC h)) : w.cell? ⟨g, 2, none⟩ = some (.int .i64 (h.len : Int)) := (k.cell 2).trans rfl
theorem Has.hd_sum {w : World} {g : Nat} {t : TypeId} {h : HdV} (k : Has w g t (hdC h)) : w.cell? ⟨g, 3, none⟩ = some (.int .u64 (h.sum : Int)) := (k.cell 3).trans rfl
theorem slot_any (h : HdV) (w : World) (hn : h.num < 18446744073709551616) : Calls Tryz.prog 57 #[.agg (hdC h)] w fun e w' => e = .returned (.int .i64 (h.num % 2 : Nat)) ∧ Below w.heap.size w w' := by
  obtain ⟨w1, hw1, hX, hb⟩ := one_var w 73 (hdC h)
  have c0 := hX.hd_num
  obtain ⟨n, hnn⟩ : ∃ n, h.num = n := ⟨_, rfl⟩
  rw [hnn] at c0 hn ⊢
  have e1 : Int.tmod (n : Int) 2 = ((n % 2 : Nat) : Int) := by rw [Int.tmod_eq_emod_of_nonneg (by omega)]; omega
  obtain ⟨q, hq⟩ : ∃ q, n % 2 = q := ⟨_, rfl⟩
  have hq2 : q < 2 := by omega
  rw [hq] at e1 ⊢
  clear hX hq hnn
  go_enter Tryz.func57, Tryz.ntmps57
  go_wp2_with (first
    | (refine Go.Great.wpList_boxTo rfl 73 _ rfl _ rfl w.heap.size rfl (hdC h) rfl ?_; rw [hw1]; clear hw1)
    | fail)
  go_ret
  exact ⟨by first | rfl | (rw [← e1]), hb⟩
theorem follows_any (h k : HdV) (w : World) (hn : h.num < 256) (kn : k.num < 256) : Calls Tryz.prog 58 #[.agg (hdC h), .agg (hdC k)] w fun e w' => e = .returned (.bool (decide (k.num < h.num))) ∧ Below w.heap.size w w' := by
  obtain ⟨w1, hw1, hX, hY, hb⟩ := two_vars w 73 73 (hdC h) (hdC k)
  have c0 := hX.hd_num
  have c1 := hY.hd_num
  obtain ⟨n, hnn⟩ : ∃ n, h.num = n := ⟨_, rfl⟩
  obtain ⟨m, hmm⟩ : ∃ m, k.num = m := ⟨_, rfl⟩
  rw [hnn] at c0 hn ⊢
  rw [hmm] at c1 kn ⊢
  clear hX hY hnn hmm
  by_cases hlt : m < n
  · have e0 : decide (m < n) = true := decide_eq_true hlt
    have e1 : IntKind.u64.wrap ((n : Int) - (m : Int)) = (n : Int) - (m : Int) := by rw [IntKind.wrap_u64]; omega
    have e2 : IntKind.i64.wrap ((n : Int) - (m : Int)) = (n : Int) - (m : Int) := by rw [IntKind.wrap_i64]; omega
    have e3 : (0 : Int) < (n : Int) - (m : Int) := by omega
    have e4 : decide ((0 : Int) < (n : Int) - (m : Int)) = true := decide_eq_true e3
    rw [e0]
    have hlt' : Hid (m < n) := hlt
    clear e0 hlt
    go_enter Tryz.func58, Tryz.ntmps58
    go_wp2_with (first
      | (refine Go.Great.wpList_boxTo rfl 73 _ rfl _ rfl w.heap.size rfl (hdC h) rfl ?_)
      | (refine Go.Great.wpList_boxTo rfl 73 _ rfl _ rfl (w.heap.size + 1) (by simp) (hdC k) rfl ?_; rw [hw1]; clear hw1)
      | fail)
    go_ret
    exact ⟨by first | rfl | (have := hlt'.out; simp [this]), hb⟩
  · have e0 : decide (m < n) = false := decide_eq_false hlt
    rw [e0]
    have e1 : Hid ((IntKind.i64.wrap (IntKind.u64.wrap ((n : Int) - (m : Int)))) ≤ 0) := by
      show _ ≤ _
      rw [IntKind.wrap_u64, IntKind.wrap_i64]
      omega
    obtain ⟨z, hz⟩ : ∃ z, IntKind.u64.wrap ((n : Int) - (m : Int)) = z := ⟨_, rfl⟩
    rw [hz] at e1
    obtain ⟨y, hy⟩ : ∃ y, IntKind.i64.wrap z = y := ⟨_, rfl⟩
    rw [hy] at e1
    have e3 : ¬ (0 : Int) < y := by have := e1.out; omega
    have e4 : decide ((0 : Int) < y) = false := decide_eq_false e3
    clear e0 hlt e1
    go_enter Tryz.func58, Tryz.ntmps58
    go_wp2_with (first
      | (refine Go.Great.wpList_boxTo rfl 73 _ rfl _ rfl w.heap.size rfl (hdC h) rfl ?_)
      | (refine Go.Great.wpList_boxTo rfl 73 _ rfl _ rfl (w.heap.size + 1) (by simp) (hdC k) rfl ?_; rw [hw1]; clear hw1)
      | fail)
    go_ret
    exact ⟨by simp [e4, e3, hz, hy], hb⟩
/-- A number put behind bytes. -/
theorem putJ (ao : Option Addr) (n c : Nat) (xs : List UInt8) (x k : Nat) (w : World) (h : By w ao c xs) (hn : n = xs.length) (hl : n ≤ 1000000) (hx : x < 18446744073709551616) (h1 : 0 < k) (h8 : k ≤ 8) :
    Calls Tryz.prog 71 #[.slice ao n c, .int .u64 (x : Nat), .int .i64 (k : Nat)] w fun e w' => e = .returned (.slice (some ⟨w.heap.size, 0, none⟩) (n + k) (n + k)) ∧ By w' (some ⟨w.heap.size, 0, none⟩) (n + k) (xs ++ putB x k) ∧ w.heap.size < w'.heap.size ∧ Below w.heap.size w w' := by
  have hh : heldI (k : Int) = k := by unfold heldI; split <;> (try split) <;> omega
  refine (put_any ao n c xs (x : Int) (k : Int) w h hn (by omega) (by omega) (by omega)).mono ?_
  rintro e w' ⟨m, hm, rfl, hB, hb⟩
  rw [hh] at hm hB
  rw [Int.toNat_natCast, Int.toNat_natCast] at hm hB
  have hmn : m = n + k := by rw [hm, List.length_append, putB_length, ← hn]
  subst hmn
  refine ⟨rfl, hB, ?_, hb⟩
  have hl2 : 0 < (xs ++ putB x k).length := by rw [List.length_append, putB_length]; omega
  have := hB.cell 0 hl2
  exact World.block_lt_of_cell? w' _ this
theorem byte_u8 : Tryz.prog.underlying 5 = some (.int .u8) := Tryz.underlying5
theorem conv_mark (w : World) : (convert 60 60 (.slice (some ⟨w.heap.size, 0, none⟩) 15 15)).run Tryz.prog (w.alloc (.cells #[.int .u8 112, .int .u8 97, .int .u8 100, .int .u8 100, .int .u8 111, .int .u8 99, .int .u8 107, .int .u8 32, .int .u8 106, .int .u8 111, .int .u8 117, .int .u8 114, .int .u8 110, .int .u8 97, .int .u8 108] 5)) = .ok (.slice (some ⟨w.heap.size, 0, none⟩) 15 15) (w.alloc (.cells (Bs markB).toArray 5 (15, 16))) :=
  Go.Lib.run_convert_bytes_const w 60 5 _ 15 15 Tryz.underlying60 byte_u8
theorem by_mark (w : World) : By (w.alloc (.cells (Bs markB).toArray 5 (15, 16))) (some ⟨w.heap.size, 0, none⟩) 15 markB where
  le := Nat.le_refl _
  cap := by decide
  nil := fun h => by cases h
  at' := fun ad had j v hv => by
    cases had
    have hg : (w.alloc (.cells (Bs markB).toArray 5 (15, 16))).heap[w.heap.size]? = some (.cells (Bs markB).toArray 5 (15, 16)) := (Go.MapKept.heap_alloc w _).1
    rw [Addr.add_mid, Nat.zero_add]
    unfold World.cell?
    rw [hg]
    show (Bs markB).toArray[j]? = some v
    rw [List.getElem?_toArray]
    exact hv
set_option maxHeartbeats 2000000 in
theorem sheet_any (h : HdV) (w : World) (ok : HdOk h) : Calls Tryz.prog 64 #[.agg (hdC h)] w fun e w' => ∃ g c, e = .returned (.slice (some ⟨g, 0, none⟩) 44 c) ∧ By w' (some ⟨g, 0, none⟩) c (hdB h) ∧ w.heap.size ≤ g ∧ g < w'.heap.size ∧ Below w.heap.size w w' := by
  obtain ⟨w1, hw1, hX, hb⟩ := one_var w 73 (hdC h)
  have c0 := hX.hd_num
  have c1 := hX.hd_half
  have c2 := hX.hd_len
  have c3 := hX.hd_sum
  obtain ⟨o1, o2, o3, o4⟩ := ok
  obtain ⟨a, ha⟩ : ∃ a, h.num = a := ⟨_, rfl⟩
  obtain ⟨b, hb'⟩ : ∃ a, h.half = a := ⟨_, rfl⟩
  obtain ⟨l, hl⟩ : ∃ a, h.len = a := ⟨_, rfl⟩
  obtain ⟨s, hs⟩ : ∃ a, h.sum = a := ⟨_, rfl⟩
  have hT : Hid (hdB h = markB ++ (putB a 8 ++ (putB b 1 ++ (putB l 4 ++ (putB s 8 ++ putB a 8))))) := by
    show _ = _
    unfold hdB hdT
    rw [ha, hb', hl, hs]
  have hTl : Hid ((hdB h).length = 44) := hdB_length h
  rw [ha] at c0 o1
  rw [hb'] at c1 o2
  rw [hl] at c2 o3
  rw [hs] at c3 o4
  have hq2 : Below w1.heap.size w1 (w1.alloc (.cells (Bs markB).toArray 5 (15, 16))) := (Below.refl _ _).alloc (Nat.le_refl _) _
  have hBM := by_mark w1
  have hcv := conv_mark w1
  obtain ⟨w2, hw2⟩ : ∃ W, w1.alloc (.cells (Bs markB).toArray 5 (15, 16)) = W := ⟨_, rfl⟩
  rw [hw2] at hq2 hBM hcv
  have d0 := (hX.later hq2).hd_num
  rw [ha] at d0
  have hb2 := hb.trans (hq2.mono hb.size)
  have hp1 := putJ (some ⟨w1.heap.size, 0, none⟩) 15 15 markB a 8 w2 hBM rfl (by decide) o1 (by decide) (by decide)
  replace hp1 : Hid _ := hp1
  have hX2 := hX.later hq2
  have hea : Hid _ := ha
  have heb : Hid _ := hb'
  have hel : Hid _ := hl
  have hes : Hid _ := hs
  clear hw2 ha hb' hl hs c0 c1 c2 c3 hX
  go_enter Tryz.func64, Tryz.ntmps64
  go_wp2_with (first
    | (refine Go.Great.wpList_boxTo rfl 73 _ rfl _ rfl w.heap.size rfl (hdC h) rfl ?_; rw [hw1]; clear hw1)
    | fail)
  refine Calls.mono hp1.out ?_
  rintro e v0 ⟨rfl, hB0, hs0, hq0'⟩
  clear hp1
  have hX3 := hX2.later hq0'
  have hb0' := hb2.trans (hq0'.mono hb2.size)
  have e1 : v0.cell? ⟨w.heap.size, 1, none⟩ = some (.int .i64 (b : Int)) := by have z := hX3.hd_half; rw [heb.out] at z; exact z
  have hp1 := putJ (some ⟨w2.heap.size, 0, none⟩) 23 23 (markB ++ putB a 8) b 1 v0 hB0 (by simp only [List.length_append, putB_length]; rfl) (by decide) (by omega) (by decide) (by decide)
  replace hp1 : Hid _ := hp1
  go_wp2_with fail
  clear e1
  refine Calls.mono hp1.out ?_
  rintro e v1 ⟨rfl, hB1, hs1, hq1'⟩
  clear hp1
  have hX4 := hX3.later hq1'
  have hb1' := hb0'.trans (hq1'.mono hb0'.size)
  have e2 : v1.cell? ⟨w.heap.size, 2, none⟩ = some (.int .i64 (l : Int)) := by have z := hX4.hd_len; rw [hel.out] at z; exact z
  have hp1 := putJ (some ⟨v0.heap.size, 0, none⟩) 24 24 ((markB ++ putB a 8) ++ putB b 1) l 4 v1 hB1 (by simp only [List.length_append, putB_length]; rfl) (by decide) (by omega) (by decide) (by decide)
  replace hp1 : Hid _ := hp1
  go_wp2_with fail
  clear e2
  refine Calls.mono hp1.out ?_
  rintro e v2 ⟨rfl, hB2, hs2, hq2'⟩
  clear hp1
  have hX5 := hX4.later hq2'
  have hb2' := hb1'.trans (hq2'.mono hb1'.size)
  have e3 : v2.cell? ⟨w.heap.size, 3, none⟩ = some (.int .u64 (s : Int)) := by have z := hX5.hd_sum; rw [hes.out] at z; exact z
  have hp1 := putJ (some ⟨v1.heap.size, 0, none⟩) 28 28 (((markB ++ putB a 8) ++ putB b 1) ++ putB l 4) s 8 v2 hB2 (by simp only [List.length_append, putB_length]; rfl) (by decide) (by omega) (by decide) (by decide)
  replace hp1 : Hid _ := hp1
  go_wp2_with fail
  clear e3
  refine Calls.mono hp1.out ?_
  rintro e v3 ⟨rfl, hB3, hs3, hq3'⟩
  clear hp1
  have hX6 := hX5.later hq3'
  have hb3' := hb2'.trans (hq3'.mono hb2'.size)
  have e4 : v3.cell? ⟨w.heap.size, 0, none⟩ = some (.int .u64 (a : Int)) := by have z := hX6.hd_num; rw [hea.out] at z; exact z
  have hp1 := putJ (some ⟨v2.heap.size, 0, none⟩) 36 36 ((((markB ++ putB a 8) ++ putB b 1) ++ putB l 4) ++ putB s 8) a 8 v3 hB3 (by simp only [List.length_append, putB_length]; rfl) (by decide) (by omega) (by decide) (by decide)
  replace hp1 : Hid _ := hp1
  go_wp2_with fail
  clear e4
  refine Calls.mono hp1.out ?_
  rintro e v4 ⟨rfl, hB4, hs4, hq4'⟩
  clear hp1
  have hX7 := hX6.later hq4'
  have hb4' := hb3'.trans (hq4'.mono hb3'.size)
  go_wp2
  go_ret
  refine ⟨v3.heap.size, 44, rfl, ?_, ?_, hs4, hb4'⟩
  · rw [hT.out]
    simp only [List.append_assoc] at hB4
    exact hB4
  · have := hb3'.size
    omega
end
end Go.Proofs.YtpnpjblohijajabGreat
