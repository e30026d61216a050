/- What comes in, opened: a message by value. -/
import Derived.Test.YtecilienolabfaaGreatDoorWireMem
import Derived.Test.YtecilienolabfaaGreatDoorOpenSt
import Derived.Test.YtecilienolabfaaGreatDoorPackBal
namespace Go.Proofs.YtecilienolabfaaGreatDoor
set_option linter.unusedSimpArgs false
set_option linter.unusedVariables false
set_option maxRecDepth 100000
open Go.ChangeShapes Go.WideShapes Go.ChangeAt Go.RowKit

/-- A message with rows of whatever length. -/
structure MsgIn (m : MsgV) : Prop where
  kind : m.kind < 256
  src : m.src < 256
  dst : m.dst < 256
  epoch : m.epoch < 4294967296
  b : BalOk m.b
  acc : BalOk m.acc
  inc : IncOk m.inc
  group : m.group < 256
  st : StIn m.st
  diff : DiffIn m.diff
  ent : EntOk m.ent
  n : m.n < 4294967296
  op : OpOk m.op
  r : ResIn m.r
theorem MsgIn.ok {m : MsgV} (h : MsgIn m) (h1 : m.st.log.length ≤ 1000) (h2 : m.diff.log.length ≤ 1000) (h3 : m.diff.whole.log.length ≤ 1000) : MsgOk m :=
  ⟨h.kind, h.src, h.dst, h.epoch, h.b, h.acc, h.inc, h.group, h.st.ok h1, ⟨h.diff.kind1, h.diff.kind2, h.diff.fr, h.diff.log, h2, h.diff.whole.ok h3⟩, h.ent, h.n, h.op, h.r⟩

theorem co_msg : Tryz.prog.cellsOf 48 = 131 := by kernel_rfl
section
variable {H : Type} {enc : TypeId × Value → H} {W : World} {base : Nat} {fuel : Nat} {y : DataW H × List MemPlace}
theorem reads_byte {n : Nat} {cs : List Value} (h : DataW.trod enc Tryz.prog W 0 (fun _ => true) true n 5 cs = some y) : ∃ k : Nat, cs = [.int .u8 (k : Int)] ∧ k < 256 := by
  obtain ⟨x, q, _, w⟩ := DataW.trod_int Tryz.underlying5 h
  have b := bounds_u8 w
  obtain ⟨k, rfl⟩ := Int.eq_ofNat_of_zero_le b.1
  exact ⟨k, q, by omega⟩
theorem reads_u32 {n : Nat} {cs : List Value} (h : DataW.trod enc Tryz.prog W 0 (fun _ => true) true n 22 cs = some y) : ∃ k : Nat, cs = [.int .u32 (k : Int)] ∧ k < 4294967296 := by
  obtain ⟨x, q, _, w⟩ := DataW.trod_int Tryz.underlying22 h
  have b := bounds_u32 w
  obtain ⟨k, rfl⟩ := Int.eq_ofNat_of_zero_le b.1
  exact ⟨k, q, by omega⟩
theorem reads_msg {cs : List Value} (h : DataW.trod enc Tryz.prog W 0 (fun _ => true) true fuel 48 cs = some y) : ∃ m a1 c1 a2 c2 a3 c3, cs = msgL m a1 c1 a2 c2 a3 c3 ∧ MsgIn m ∧ Sl W a1 c1 8 (entR m.st.log) ∧ Sl W a2 c2 8 (entR m.diff.log) ∧ Sl W a3 c3 8 (entR m.diff.whole.log) := by
  obtain ⟨xs, n, _, _, hl, hxl, hf⟩ := DataW.trod_struct Tryz.underlying48 h
  rw [co_msg] at hl
  have hxl : xs.length = 15 := hxl
  have h0 : DataW.trod enc Tryz.prog W 0 (fun _ => true) true n 5 ((cs.drop 0).take (Tryz.prog.cellsOf 5)) = xs[0]? := hf 0 _ rfl
  have h1 : DataW.trod enc Tryz.prog W 0 (fun _ => true) true n 5 ((cs.drop 1).take (Tryz.prog.cellsOf 5)) = xs[1]? := hf 1 _ rfl
  have h2 : DataW.trod enc Tryz.prog W 0 (fun _ => true) true n 5 ((cs.drop 2).take (Tryz.prog.cellsOf 5)) = xs[2]? := hf 2 _ rfl
  have h3 : DataW.trod enc Tryz.prog W 0 (fun _ => true) true n 22 ((cs.drop 3).take (Tryz.prog.cellsOf 22)) = xs[3]? := hf 3 _ rfl
  have h4 : DataW.trod enc Tryz.prog W 0 (fun _ => true) true n 24 ((cs.drop 4).take (Tryz.prog.cellsOf 24)) = xs[4]? := hf 4 _ rfl
  have h5 : DataW.trod enc Tryz.prog W 0 (fun _ => true) true n 24 ((cs.drop 6).take (Tryz.prog.cellsOf 24)) = xs[5]? := hf 5 _ rfl
  have h6 : DataW.trod enc Tryz.prog W 0 (fun _ => true) true n 4 ((cs.drop 8).take (Tryz.prog.cellsOf 4)) = xs[6]? := hf 6 _ rfl
  have h7 : DataW.trod enc Tryz.prog W 0 (fun _ => true) true n 26 ((cs.drop 9).take (Tryz.prog.cellsOf 26)) = xs[7]? := hf 7 _ rfl
  have h8 : DataW.trod enc Tryz.prog W 0 (fun _ => true) true n 5 ((cs.drop 12).take (Tryz.prog.cellsOf 5)) = xs[8]? := hf 8 _ rfl
  have h9 : DataW.trod enc Tryz.prog W 0 (fun _ => true) true n 44 ((cs.drop 13).take (Tryz.prog.cellsOf 44)) = xs[9]? := hf 9 _ rfl
  have h10 : DataW.trod enc Tryz.prog W 0 (fun _ => true) true n 46 ((cs.drop 62).take (Tryz.prog.cellsOf 46)) = xs[10]? := hf 10 _ rfl
  have h11 : DataW.trod enc Tryz.prog W 0 (fun _ => true) true n 41 ((cs.drop 114).take (Tryz.prog.cellsOf 41)) = xs[11]? := hf 11 _ rfl
  have h12 : DataW.trod enc Tryz.prog W 0 (fun _ => true) true n 22 ((cs.drop 122).take (Tryz.prog.cellsOf 22)) = xs[12]? := hf 12 _ rfl
  have h13 : DataW.trod enc Tryz.prog W 0 (fun _ => true) true n 39 ((cs.drop 123).take (Tryz.prog.cellsOf 39)) = xs[13]? := hf 13 _ rfl
  have h14 : DataW.trod enc Tryz.prog W 0 (fun _ => true) true n 32 ((cs.drop 129).take (Tryz.prog.cellsOf 32)) = xs[14]? := hf 14 _ rfl
  rw [co_u8] at h0 h1 h2 h8
  rw [co_u32] at h3 h12
  rw [cells_bal] at h4 h5
  rw [co_bool] at h6
  rw [cells_inc] at h7
  rw [co_st] at h9
  rw [co_diff] at h10
  rw [co_ent] at h11
  rw [co_op] at h13
  rw [co_res] at h14
  obtain ⟨y0, e0⟩ := some_of' h0 (by omega)
  obtain ⟨y1, e1⟩ := some_of' h1 (by omega)
  obtain ⟨y2, e2⟩ := some_of' h2 (by omega)
  obtain ⟨y3, e3⟩ := some_of' h3 (by omega)
  obtain ⟨y4, e4⟩ := some_of' h4 (by omega)
  obtain ⟨y5, e5⟩ := some_of' h5 (by omega)
  obtain ⟨y6, e6⟩ := some_of' h6 (by omega)
  obtain ⟨y7, e7⟩ := some_of' h7 (by omega)
  obtain ⟨y8, e8⟩ := some_of' h8 (by omega)
  obtain ⟨y9, e9⟩ := some_of' h9 (by omega)
  obtain ⟨y10, e10⟩ := some_of' h10 (by omega)
  obtain ⟨y11, e11⟩ := some_of' h11 (by omega)
  obtain ⟨y12, e12⟩ := some_of' h12 (by omega)
  obtain ⟨y13, e13⟩ := some_of' h13 (by omega)
  obtain ⟨y14, e14⟩ := some_of' h14 (by omega)
  obtain ⟨k0, q0, w0⟩ := reads_byte e0
  obtain ⟨k1, q1, w1⟩ := reads_byte e1
  obtain ⟨k2, q2, w2⟩ := reads_byte e2
  obtain ⟨k3, q3, w3⟩ := reads_u32 e3
  obtain ⟨k4, q4, w4⟩ := reads_bal e4
  obtain ⟨k5, q5, w5⟩ := reads_bal e5
  obtain ⟨k6, q6, _⟩ := DataW.trod_bool Tryz.underlying4 e6
  obtain ⟨k7, q7, w7⟩ := reads_inc e7
  obtain ⟨k8, q8, w8⟩ := reads_byte e8
  obtain ⟨k9, a1, c1, q9, w9, s1⟩ := reads_st e9
  obtain ⟨k10, a2, c2, a3, c3, q10, w10, s2, s3⟩ := reads_diff e10
  obtain ⟨k11, q11, w11⟩ := reads_ent e11
  obtain ⟨k12, q12, w12⟩ := reads_u32 e12
  obtain ⟨k13, q13, w13⟩ := reads_op e13
  obtain ⟨k14, q14, w14, z14⟩ := reads_res e14
  refine ⟨⟨k0, k1, k2, k3, k4, k5, k6, k7, k8, k9, k10, k11, k12, k13, k14⟩, a1, c1, a2, c2, a3, c3, ?_, ⟨w0, w1, w2, w3, w4, w5, w7, w8, w9, w10, w11, w12, w13, ⟨w14, z14⟩⟩, s1, s2, s3⟩
  have a0 := cut_at cs 0 1
  have a1 := cut_at cs 1 1
  have a2 := cut_at cs 2 1
  have a3 := cut_at cs 3 1
  have a4 := cut_at cs 4 2
  have a5 := cut_at cs 6 2
  have a6 := cut_at cs 8 1
  have a7 := cut_at cs 9 3
  have a8 := cut_at cs 12 1
  have a9 := cut_at cs 13 49
  have a10 := cut_at cs 62 52
  have a11 := cut_at cs 114 8
  have a12 := cut_at cs 122 1
  have a13 := cut_at cs 123 6
  have a14 := cut_last cs 129 2 (by omega)
  have e : cs = (cs.drop 0).take 1 ++ ((cs.drop 1).take 1 ++ ((cs.drop 2).take 1 ++ ((cs.drop 3).take 1 ++ ((cs.drop 4).take 2 ++ ((cs.drop 6).take 2 ++ ((cs.drop 8).take 1 ++ ((cs.drop 9).take 3 ++ ((cs.drop 12).take 1 ++ ((cs.drop 13).take 49 ++ ((cs.drop 62).take 52 ++ ((cs.drop 114).take 8 ++ ((cs.drop 122).take 1 ++ ((cs.drop 123).take 6 ++ (cs.drop 129).take 2))))))))))))) := by
    rw [a14, ← a13, ← a12, ← a11, ← a10, ← a9, ← a8, ← a7, ← a6, ← a5, ← a4, ← a3, ← a2, ← a1, ← a0]
    rfl
  rw [e, q0, q1, q2, q3, q4, q5, q6, q7, q8, q9, q10, q11, q12, q13, q14]
  rfl
end
theorem open_msg {H : Type} {enc : TypeId × Value → H} {W : World} {base : Nat} {v : Value} {d : DataW H} {p : List MemPlace} (ok : Value.okWide Tryz.prog W .any base 48 v) (h : DataW.Trod enc Tryz.prog W 0 (fun _ => true) true 48 v d p) : ∃ m a1 c1 a2 c2 a3 c3, v = .agg (msgC m a1 c1 a2 c2 a3 c3) ∧ MsgIn m ∧ Sl W a1 c1 8 (entR m.st.log) ∧ Sl W a2 c2 8 (entR m.diff.log) ∧ Sl W a3 c3 8 (entR m.diff.whole.log) := by
  obtain ⟨cs, rfl, hsz⟩ := okWide_struct Tryz.underlying48 ok
  obtain ⟨fuel, hf⟩ := h
  obtain ⟨m, a1, c1, a2, c2, a3, c3, hx, hk, h1, h2, h3⟩ := reads_msg hf
  exact ⟨m, a1, c1, a2, c2, a3, c3, by rw [show cs = msgC m a1 c1 a2 c2 a3 c3 from Array.toList_inj.1 hx], hk, h1, h2, h3⟩
end Go.Proofs.YtecilienolabfaaGreatDoor
