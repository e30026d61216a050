/- A base, an object, a result held against itself by '==': true. -/
import Derived.Test.YtphlfepgaghhhaaRefSeen
import Derived.Test.YtphlfepgaghhhaaPlan
import Derived.DeepKeys
import Derived.Laws.StructEq
namespace Go.Proofs.Ytphlfepgaghhhaa
set_option linter.unusedSimpArgs false
set_option linter.unusedVariables false
set_option maxRecDepth 100000
open Go.RowKit

theorem wfo_u8 {n : Nat} (h : n < 256) : (Lit.int .u8 n).wf = true := by
  simp [Lit.wf, IntKind.min, IntKind.max, IntKind.signed, IntKind.bits]; omega
theorem wfo_u32 {n : Nat} (h : n < 4294967296) : (Lit.int .u32 n).wf = true := by
  simp [Lit.wf, IntKind.min, IntKind.max, IntKind.signed, IntKind.bits]; omega

theorem co_u8 : Try.prog.cellsOf 5 = 1 := by kernel_rfl
theorem co_u32 : Try.prog.cellsOf 22 = 1 := by kernel_rfl
theorem co_bool : Try.prog.cellsOf 4 = 1 := by kernel_rfl
theorem co_string : Try.prog.cellsOf 9 = 1 := by kernel_rfl
theorem co_attrs : Try.prog.cellsOf 23 = 3 := by kernel_rfl
theorem co_obj : Try.prog.cellsOf 25 = 5 := by kernel_rfl
theorem co_objs : Try.prog.cellsOf 26 = 30 := by kernel_rfl
theorem co_res : Try.prog.cellsOf 28 = 2 := by kernel_rfl
theorem co_last : Try.prog.cellsOf 30 = 3 := by kernel_rfl
theorem co_lasts : Try.prog.cellsOf 31 = 9 := by kernel_rfl
theorem co_base : Try.prog.cellsOf 33 = 39 := by kernel_rfl

theorem str_lits (l : List UInt8) (h : l.length ≤ 9223372036854775807) (D : Nat) : Try.prog.keyLits (D + 1) 9 [strV l] = some [.string l] := by
  unfold Program.keyLits strV
  rw [Try.underlying9]
  have hs : (mkS l).size ≤ maxLen := by rw [mkS_size]; unfold maxLen; omega
  simp only [hs, if_true]
  simp [mkS]

theorem res_lits (r : ResV) (h1 : r.code < 256) (h2 : r.data.length ≤ 9223372036854775807) (D : Nat) : ∃ K, Try.prog.keyLits (D + 2) 28 (resL r) = some K := by
  have w0 := wfo_u8 h1
  have e := str_lits r.data h2 D
  have e8 : Try.prog.keyLits (D + 1) 5 [.int .u8 (r.code : Int)] = some [.int .u8 (r.code : Int)] := by
    unfold Program.keyLits
    rw [Try.underlying5]
    simp [w0]
  unfold Program.keyLits
  rw [Try.underlying28]
  simp [resL, co_res, co_u8, co_string, e, e8]

theorem last_lits (l : LastV) (h0 : l.seq < 4294967296) (h1 : l.r.code < 256) (h2 : l.r.data.length ≤ 9223372036854775807) (D : Nat) : ∃ K, Try.prog.keyLits (D + 3) 30 (lastL l) = some K := by
  have w0 := wfo_u32 h0
  obtain ⟨K, e⟩ := res_lits l.r h1 h2 D
  have e4 : Try.prog.keyLits (D + 2) 22 [.int .u32 (l.seq : Int)] = some [.int .u32 (l.seq : Int)] := by
    unfold Program.keyLits
    rw [Try.underlying22]
    simp [w0]
  have e : Try.prog.keyLits (D + 2) 28 [.int .u8 (l.r.code : Int), strV l.r.data] = some K := e
  unfold Program.keyLits
  rw [Try.underlying30]
  simp [lastL, resL, co_last, co_u32, co_res, e, e4]

theorem obj_lits (x : ObjV) (h0 : x.data.length ≤ 9223372036854775807) (h1 : x.a0.length ≤ 9223372036854775807) (h2 : x.a1.length ≤ 9223372036854775807) (h3 : x.a2.length ≤ 9223372036854775807) (D : Nat) : ∃ K, Try.prog.keyLits (D + 3) 25 (objL x) = some K := by
  have e0 := str_lits x.data h0 (D + 1)
  have f0 := str_lits x.a0 h1 D
  have f1 := str_lits x.a1 h2 D
  have f2 := str_lits x.a2 h3 D
  have eb : Try.prog.keyLits (D + 2) 4 [.bool x.there] = some [.bool x.there] := by
    unfold Program.keyLits
    rw [Try.underlying4]
  have ea : Try.prog.keyLits (D + 2) 23 [strV x.a0, strV x.a1, strV x.a2] = some [.string x.a0, .string x.a1, .string x.a2] := by
    unfold Program.keyLits
    rw [Try.underlying23]
    simp [co_attrs, co_string, show List.range 3 = [0, 1, 2] from rfl, f0, f1, f2]
  unfold Program.keyLits
  rw [Try.underlying25]
  simp [objL, co_obj, co_bool, co_string, co_attrs, e0, eb, ea]

theorem objs_lits (f : Fin 6 → ObjV) (h : ∀ i, ∃ K, Try.prog.keyLits 6 25 (objL (f i)) = some K) : ∃ K, Try.prog.keyLits 7 26 (objsL f) = some K := by
  obtain ⟨K0, e0⟩ := h 0
  obtain ⟨K1, e1⟩ := h 1
  obtain ⟨K2, e2⟩ := h 2
  obtain ⟨K3, e3⟩ := h 3
  obtain ⟨K4, e4⟩ := h 4
  obtain ⟨K5, e5⟩ := h 5
  simp only [objL] at e0 e1 e2 e3 e4 e5
  unfold Program.keyLits
  rw [Try.underlying26]
  simp [objsL, objL, co_obj, co_objs, show List.range 6 = [0, 1, 2, 3, 4, 5] from rfl, e0, e1, e2, e3, e4, e5]

theorem lasts_lits (f : Fin 3 → LastV) (h : ∀ i, ∃ K, Try.prog.keyLits 6 30 (lastL (f i)) = some K) : ∃ K, Try.prog.keyLits 7 31 (lastsL f) = some K := by
  obtain ⟨K0, e0⟩ := h 0
  obtain ⟨K1, e1⟩ := h 1
  obtain ⟨K2, e2⟩ := h 2
  simp only [lastL, resL] at e0 e1 e2
  unfold Program.keyLits
  rw [Try.underlying31]
  simp [lastsL, lastL, resL, co_last, co_lasts, show List.range 3 = [0, 1, 2] from rfl, e0, e1, e2]

theorem base_lits (b : BaseV) (h : BaseOk b) : ∃ K, Try.prog.keyLits 8 33 (baseL b) = some K := by
  obtain ⟨K0, e0⟩ := objs_lits b.obj (fun i => obj_lits (b.obj i) (by have := h.data i; omega) (by have := h.a0 i; omega) (by have := h.a1 i; omega) (by have := h.a2 i; omega) 3)
  obtain ⟨K1, e1⟩ := lasts_lits b.last (fun i => last_lits (b.last i) (h.seq i) (h.code i) (h.rdata i) 3)
  have l0 : (objsL b.obj).length = 30 := rfl
  have l1 : (lastsL b.last).length = 9 := rfl
  unfold Program.keyLits baseL
  rw [Try.underlying33]
  generalize objsL b.obj = A at *
  generalize lastsL b.last = B at *
  have t0 : (A ++ B).take 30 = A := by rw [← l0, List.take_left]
  have t1 : (A ++ B).drop 30 = B := by rw [← l0, List.drop_left]
  have t2 : B.take 9 = B := List.take_of_length_le (by omega)
  simp [co_base, co_objs, co_lasts, l0, l1, t0, t1, t2, e0, e1]

theorem eq_self_in (t : TypeId) (c : Array Value) (hk : Try.prog.keyTypeAt 8 t = true) (hf : (Value.agg c).formed Try.prog t = true) (hl : ∃ K, Try.prog.keyLits 8 t c.toList = some K) (w : World) : (Op.equalIn 10000 t (.agg c) (.agg c)).run Try.prog w = .ok true w := by
  obtain ⟨K, e⟩ := hl
  obtain ⟨r, hr, hiff⟩ := run_equalIn_deep 9992 8 t hk w 8 8 (.agg c) (.agg c) K K hf hf e e
  rw [hiff.2 rfl] at hr
  exact hr
theorem eq_self (t : TypeId) (c : Array Value) (hk : Try.prog.keyTypeAt 8 t = true) (hf : (Value.agg c).formed Try.prog t = true) (hl : ∃ K, Try.prog.keyLits 8 t c.toList = some K) (w : World) : (binOp .eql t (.agg c) (.agg c)).run Try.prog w = .ok (.bool true) w := by
  rw [run_eql_struct, eq_self_in t c hk hf hl w]
  rfl
theorem neq_self (t : TypeId) (c : Array Value) (hk : Try.prog.keyTypeAt 8 t = true) (hf : (Value.agg c).formed Try.prog t = true) (hl : ∃ K, Try.prog.keyLits 8 t c.toList = some K) (w : World) : (binOp .neq t (.agg c) (.agg c)).run Try.prog w = .ok (.bool false) w := by
  rw [run_neq_struct, eq_self_in t c hk hf hl w]
  rfl

theorem key_base : Try.prog.keyTypeAt 8 33 = true := by kernel_rfl
theorem key_obj : Try.prog.keyTypeAt 8 25 = true := by kernel_rfl
theorem key_objs : Try.prog.keyTypeAt 8 26 = true := by kernel_rfl
theorem key_last : Try.prog.keyTypeAt 8 30 = true := by kernel_rfl
theorem key_res : Try.prog.keyTypeAt 8 28 = true := by kernel_rfl

theorem eq_base (b : BaseV) (h : BaseOk b) (w : World) : (binOp .eql 33 (.agg (baseC b)) (.agg (baseC b))).run Try.prog w = .ok (.bool true) w :=
  eq_self 33 (baseC b) key_base (by simp [Value.formed, Try.underlying33, co_base]; rfl) (base_lits b h) w
theorem neq_base (b : BaseV) (h : BaseOk b) (w : World) : (binOp .neq 33 (.agg (baseC b)) (.agg (baseC b))).run Try.prog w = .ok (.bool false) w :=
  neq_self 33 (baseC b) key_base (by simp [Value.formed, Try.underlying33, co_base]; rfl) (base_lits b h) w
theorem eq_res (r : ResV) (h1 : r.code < 256) (h2 : r.data.length ≤ 9223372036854775807) (w : World) : (binOp .eql 28 (.agg (resC r)) (.agg (resC r))).run Try.prog w = .ok (.bool true) w :=
  eq_self 28 (resC r) key_res (by simp [Value.formed, Try.underlying28, co_res]; rfl) (res_lits r h1 h2 6) w
theorem neq_res (r : ResV) (h1 : r.code < 256) (h2 : r.data.length ≤ 9223372036854775807) (w : World) : (binOp .neq 28 (.agg (resC r)) (.agg (resC r))).run Try.prog w = .ok (.bool false) w :=
  neq_self 28 (resC r) key_res (by simp [Value.formed, Try.underlying28, co_res]; rfl) (res_lits r h1 h2 6) w

theorem guard_base : Try.prog.eqGuardType Try.prog.depth 33 = false := by kernel_rfl
theorem guard_res : Try.prog.eqGuardType Try.prog.depth 28 = false := by kernel_rfl
theorem guard_obj : Try.prog.eqGuardType Try.prog.depth 25 = false := by kernel_rfl
end Go.Proofs.Ytphlfepgaghhhaa
