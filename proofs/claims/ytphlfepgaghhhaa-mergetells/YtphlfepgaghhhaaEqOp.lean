/- '==' of operations; '==' and '!=' of what is the same, as steps of a walk. -/
import Derived.Test.YtphlfepgaghhhaaEqObj
import Derived.Test.YtphlfepgaghhhaaPlan
namespace Go.Proofs.Ytphlfepgaghhhaa
set_option linter.unusedSimpArgs false
set_option linter.unusedVariables false
set_option maxRecDepth 100000
open Go.RowKit

def opK (o : OpV) : List Lit := [.int .u8 (o.client : Int), .int .u32 (o.seq : Int), .int .u8 (o.kind : Int), .int .u8 (o.obj : Int), .int .u8 (o.pos : Int), .string o.data]

theorem opK_inj {o p : OpV} (h : opK o = opK p) : o = p := by
  obtain ⟨a, b, c, d, e, f⟩ := o
  obtain ⟨a', b', c', d', e', f'⟩ := p
  simp [opK] at h
  obtain ⟨h1, h2, h3, h4, h5, rfl⟩ := h
  have e1 : a = a' := by omega
  have e2 : b = b' := by omega
  have e3 : c = c' := by omega
  have e4 : d = d' := by omega
  have e5 : e = e' := by omega
  subst e1 e2 e3 e4 e5
  rfl

theorem op_lits (o : OpV) (h : OpOk o) (D : Nat) : Try.prog.keyLits (D + 2) 35 (opL o) = some (opK o) := by
  have w0 := wfo_u8 h.client
  have w1 := wfo_u32 h.seq
  have w2 := wfo_u8 h.kind
  have w3 := wfo_u8 h.obj
  have w4 := wfo_u8 h.pos
  have e := str_lits o.data h.data D
  have eb : ∀ n : Nat, (Lit.int .u8 (n : Int)).wf = true → Try.prog.keyLits (D + 1) 5 [.int .u8 (n : Int)] = some [.int .u8 (n : Int)] := fun n hn => by
    unfold Program.keyLits
    rw [Try.underlying5]
    simp [hn]
  have e4 : Try.prog.keyLits (D + 1) 22 [.int .u32 (o.seq : Int)] = some [.int .u32 (o.seq : Int)] := by
    unfold Program.keyLits
    rw [Try.underlying22]
    simp [w1]
  unfold Program.keyLits
  rw [Try.underlying35]
  have co : Try.prog.cellsOf 35 = 6 := by kernel_rfl
  simp [opL, opK, co, co_u8, co_u32, co_string, e, e4, eb _ w0, eb _ w2, eb _ w3, eb _ w4]

def sameOp (o p : OpV) : Bool := decide (o.client = p.client) && (decide (o.seq = p.seq) && (decide (o.kind = p.kind) && (decide (o.obj = p.obj) && (decide (o.pos = p.pos) && decide (o.data = p.data)))))
theorem sameOp_is (o p : OpV) : sameOp o p = true ↔ o = p := by
  unfold sameOp
  simp only [Bool.and_eq_true, decide_eq_true_iff]
  constructor
  · rintro ⟨h1, h2, h3, h4, h5, h6⟩
    obtain ⟨a, b, c, d, e, f⟩ := o
    obtain ⟨a', b', c', d', e', f'⟩ := p
    simp_all
  · rintro rfl
    exact ⟨rfl, rfl, rfl, rfl, rfl, rfl⟩

theorem key_op : Try.prog.keyTypeAt 8 35 = true := by kernel_rfl
theorem guard_op : Try.prog.eqGuardType Try.prog.depth 35 = false := by kernel_rfl
theorem eq_op (o p : OpV) (ho : OpOk o) (hp : OpOk p) (w : World) : (binOp .eql 35 (.agg (opC o)) (.agg (opC p))).run Try.prog w = .ok (.bool (sameOp o p)) w := by
  have co : Try.prog.cellsOf 35 = 6 := by kernel_rfl
  have fa : (Value.agg (opC o)).formed Try.prog 35 = true := by simp [Value.formed, Try.underlying35, co]; rfl
  have fb : (Value.agg (opC p)).formed Try.prog 35 = true := by simp [Value.formed, Try.underlying35, co]; rfl
  obtain ⟨r, hr, hiff⟩ := run_equalIn_deep 9992 8 35 key_op w 8 8 (.agg (opC o)) (.agg (opC p)) (opK o) (opK p) fa fb (op_lits o ho 6) (op_lits p hp 6)
  have hr : (Op.equalIn 10000 35 (.agg (opC o)) (.agg (opC p))).run Try.prog w = .ok r w := hr
  have hs : r = sameOp o p := by
    rw [Bool.eq_iff_iff, sameOp_is]
    exact hiff.trans ⟨opK_inj, fun h => by rw [h]⟩
  rw [run_eql_struct, hr, hs]
  rfl
end Go.Proofs.Ytphlfepgaghhhaa
