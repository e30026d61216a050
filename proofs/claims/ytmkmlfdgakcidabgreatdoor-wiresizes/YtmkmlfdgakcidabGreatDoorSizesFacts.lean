/- How long a message of a kind is, and how it begins. Nothing of the program is in it. Written by tools/sgen12.py. -/
import Derived.Test.YtmkmlfdgakcidabGreatDoorMsgFacts
namespace Go.Proofs.YtmkmlfdgakcidabGreatDoor
set_option linter.unusedSimpArgs false
set_option linter.unusedVariables false
set_option maxRecDepth 100000
open Go.RowKit

theorem putB_one (n : Nat) : putB n 1 = [UInt8.ofNat n] := by simp [putB]
theorem msgB_head (m : MsgV) : ∃ r, sumB (msgB m) = UInt8.ofNat m.kind :: UInt8.ofNat m.src :: UInt8.ofNat m.dst :: r := by
  unfold sumB msgB
  rw [putB_one, putB_one, putB_one]
  exact ⟨_, rfl⟩
theorem isMsg_kind {m : MsgV} (h : isMsg m = true) : 1 ≤ m.kind ∧ m.kind ≤ 18 := by
  refine Classical.byContradiction fun hn => ?_
  obtain ⟨g, _, _⟩ := isMsg_is.1 h
  rw [shape_other hn] at g
  unfold goesM at g
  simp only [Bool.and_eq_true, decide_eq_true_iff] at g
  exact g.1 (Nat.zero_and _)
theorem read_data {m : MsgV} {s : ShV} (h : fitsM s m = true) (h3 : s.op = 3) : m.op.data.length = 0 := by
  obtain ⟨_, _, _, h4, _, _⟩ := fits_is s m h
  unfold fitsOpM at h4
  rw [if_neg (by omega), if_pos h3, Bool.and_eq_true, decide_eq_true_iff] at h4
  rcases ((isOp_is m.op).1 h4.1).2.2.2.2.2.2.2.1 with e | e | e
  · omega
  · omega
  · rw [e]; rfl
theorem length_nil8 : ([] : List UInt8).length = 0 := rfl
theorem size_1 {m : MsgV} (h : isMsg m = true) (hk : m.kind = 1) : (sumB (msgB m)).length = 20 := by
  have hf := (isMsg_is.1 h).2.1
  rw [sumB_length]
  unfold msgB
  rw [hk]
  simp [shapeM, ifB, List.length_append, putB_length, balB_length, flagB_length, incB_length, entB_length, opB_length, resB_length, length_nil8] <;> omega
theorem size_2 {m : MsgV} (h : isMsg m = true) (hk : m.kind = 2) : (sumB (msgB m)).length = 29 := by
  have hf := (isMsg_is.1 h).2.1
  rw [sumB_length]
  unfold msgB
  rw [hk]
  simp [shapeM, ifB, List.length_append, putB_length, balB_length, flagB_length, incB_length, entB_length, opB_length, resB_length, length_nil8] <;> omega
theorem size_3 {m : MsgV} (h : isMsg m = true) (hk : m.kind = 3) : (sumB (msgB m)).length = 23 := by
  have hf := (isMsg_is.1 h).2.1
  rw [sumB_length]
  unfold msgB
  rw [hk]
  simp [shapeM, ifB, List.length_append, putB_length, balB_length, flagB_length, incB_length, entB_length, opB_length, resB_length, length_nil8] <;> omega
theorem size_4 {m : MsgV} (h : isMsg m = true) (hk : m.kind = 4) : (sumB (msgB m)).length = 20 := by
  have hf := (isMsg_is.1 h).2.1
  rw [sumB_length]
  unfold msgB
  rw [hk]
  simp [shapeM, ifB, List.length_append, putB_length, balB_length, flagB_length, incB_length, entB_length, opB_length, resB_length, length_nil8] <;> omega
theorem size_5 {m : MsgV} (h : isMsg m = true) (hk : m.kind = 5) : (sumB (msgB m)).length = 18 := by
  have hf := (isMsg_is.1 h).2.1
  rw [sumB_length]
  unfold msgB
  rw [hk]
  simp [shapeM, ifB, List.length_append, putB_length, balB_length, flagB_length, incB_length, entB_length, opB_length, resB_length, length_nil8] <;> omega
theorem size_6 {m : MsgV} (h : isMsg m = true) (hk : m.kind = 6) : (sumB (msgB m)).length = 15 := by
  have hf := (isMsg_is.1 h).2.1
  rw [sumB_length]
  unfold msgB
  rw [hk]
  simp [shapeM, ifB, List.length_append, putB_length, balB_length, flagB_length, incB_length, entB_length, opB_length, resB_length, length_nil8] <;> omega
theorem size_7 {m : MsgV} (h : isMsg m = true) (hk : m.kind = 7) : (sumB (msgB m)).length = 16 := by
  have hf := (isMsg_is.1 h).2.1
  rw [sumB_length]
  unfold msgB
  rw [hk]
  simp [shapeM, ifB, List.length_append, putB_length, balB_length, flagB_length, incB_length, entB_length, opB_length, resB_length, length_nil8] <;> omega
theorem size_8 {m : MsgV} (hk : m.kind = 8) : 15 < (sumB (msgB m)).length := by
  rw [sumB_length]
  unfold msgB
  rw [hk]
  simp [shapeM, ifB, List.length_append, putB_length, length_nil8] <;> omega
theorem size_9 {m : MsgV} (hk : m.kind = 9) : 15 < (sumB (msgB m)).length := by
  rw [sumB_length]
  unfold msgB
  rw [hk]
  simp [shapeM, ifB, List.length_append, putB_length, length_nil8] <;> omega
theorem size_10 {m : MsgV} (h : isMsg m = true) (hk : m.kind = 10) : (sumB (msgB m)).length = 20 := by
  have hf := (isMsg_is.1 h).2.1
  rw [sumB_length]
  unfold msgB
  rw [hk]
  simp [shapeM, ifB, List.length_append, putB_length, balB_length, flagB_length, incB_length, entB_length, opB_length, resB_length, length_nil8] <;> omega
theorem size_11 {m : MsgV} (h : isMsg m = true) (hk : m.kind = 11) : (sumB (msgB m)).length = 34 + m.ent.op.data.length := by
  have hf := (isMsg_is.1 h).2.1
  rw [sumB_length]
  unfold msgB
  rw [hk]
  simp [shapeM, ifB, List.length_append, putB_length, balB_length, flagB_length, incB_length, entB_length, opB_length, resB_length, length_nil8] <;> omega
theorem size_12 {m : MsgV} (h : isMsg m = true) (hk : m.kind = 12) : (sumB (msgB m)).length = 20 := by
  have hf := (isMsg_is.1 h).2.1
  rw [sumB_length]
  unfold msgB
  rw [hk]
  simp [shapeM, ifB, List.length_append, putB_length, balB_length, flagB_length, incB_length, entB_length, opB_length, resB_length, length_nil8] <;> omega
theorem size_13 {m : MsgV} (h : isMsg m = true) (hk : m.kind = 13) : (sumB (msgB m)).length = 26 := by
  have hf := (isMsg_is.1 h).2.1
  have hd : m.op.data.length = 0 := read_data hf (by rw [hk]; rfl)
  rw [sumB_length]
  unfold msgB
  rw [hk]
  simp [shapeM, ifB, List.length_append, putB_length, balB_length, flagB_length, incB_length, entB_length, opB_length, resB_length, length_nil8, hd] <;> omega
theorem size_14 {m : MsgV} (h : isMsg m = true) (hk : m.kind = 14) : (sumB (msgB m)).length = 26 := by
  have hf := (isMsg_is.1 h).2.1
  have hd : m.op.data.length = 0 := read_data hf (by rw [hk]; rfl)
  rw [sumB_length]
  unfold msgB
  rw [hk]
  simp [shapeM, ifB, List.length_append, putB_length, balB_length, flagB_length, incB_length, entB_length, opB_length, resB_length, length_nil8, hd] <;> omega
theorem size_15 {m : MsgV} (h : isMsg m = true) (hk : m.kind = 15) : (sumB (msgB m)).length = 25 + m.op.data.length := by
  have hf := (isMsg_is.1 h).2.1
  rw [sumB_length]
  unfold msgB
  rw [hk]
  simp [shapeM, ifB, List.length_append, putB_length, balB_length, flagB_length, incB_length, entB_length, opB_length, resB_length, length_nil8] <;> omega
theorem size_16 {m : MsgV} (h : isMsg m = true) (hk : m.kind = 16) : (sumB (msgB m)).length = 28 + m.op.data.length + m.r.data.length := by
  have hf := (isMsg_is.1 h).2.1
  rw [sumB_length]
  unfold msgB
  rw [hk]
  simp [shapeM, ifB, List.length_append, putB_length, balB_length, flagB_length, incB_length, entB_length, opB_length, resB_length, length_nil8] <;> omega
theorem size_17 {m : MsgV} (h : isMsg m = true) (hk : m.kind = 17) : (sumB (msgB m)).length = 19 := by
  have hf := (isMsg_is.1 h).2.1
  rw [sumB_length]
  unfold msgB
  rw [hk]
  simp [shapeM, ifB, List.length_append, putB_length, balB_length, flagB_length, incB_length, entB_length, opB_length, resB_length, length_nil8] <;> omega
theorem size_18 {m : MsgV} (h : isMsg m = true) (hk : m.kind = 18) : (sumB (msgB m)).length = 20 := by
  have hf := (isMsg_is.1 h).2.1
  rw [sumB_length]
  unfold msgB
  rw [hk]
  simp [shapeM, ifB, List.length_append, putB_length, balB_length, flagB_length, incB_length, entB_length, opB_length, resB_length, length_nil8] <;> omega
end Go.Proofs.YtmkmlfdgakcidabGreatDoor
