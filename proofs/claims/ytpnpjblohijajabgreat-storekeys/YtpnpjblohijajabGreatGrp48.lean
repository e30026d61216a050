/- StoLaws, joined. -/
import Derived.Test.YtpnpjblohijajabGreatGrp45
import Derived.Test.YtpnpjblohijajabGreatGrp47
namespace Go.Proofs.YtpnpjblohijajabGreat
section
set_option linter.unusedSimpArgs false
set_option linter.unusedVariables false
set_option maxRecDepth 100000
open Go.RowKit Go.MapKept

theorem B_nat (k : Nat) (h : k < 256) : B (UInt8.ofNat k) = .int .u8 (k : Int) := by
  unfold B
  rw [UInt8.toNat_ofNat', Nat.mod_eq_of_lt (by omega)]
theorem slice_b1 (k : Nat) (w : World) : (Instr.buildSlice 60 1 #[(0, .int .u8 (k : Int))]).run Tryz.prog w = .ok (.slice (some ⟨w.heap.size, 0, none⟩) 1 1) (w.alloc (.cells #[.int .u8 (k : Int)] 5)) := by
  have h : (Instr.buildSlice 60 1 #[(0, .int .u8 (k : Int))]).run Tryz.prog w = ((newRow 5 #[.int .u8 (k : Int)]).run Tryz.prog w).andThen (fun a w => .ok (.slice (some a) 1 1) w) := by kernel_rfl
  rw [h]
  simp [newRow, run_newObj_alloc, Sem.run_bind, Sem.run_pure, Result.andThen]
theorem by_block {w : World} {g : Nat} {xs : List UInt8} (h : Has w g 5 (Bs xs).toArray) (hn : xs.length ≤ 1000000000) : By w (some ⟨g, 0, none⟩) xs.length xs := by
  refine ⟨Nat.le_refl _, by omega, (fun z => by cases z), fun ad had j u hu => ?_⟩
  cases had
  have := h.cell j
  rw [List.getElem?_toArray, hu] at this
  rw [Addr.add_mid, Nat.zero_add]
  exact this
theorem slice_b3 (k l m : Nat) (w : World) : (Instr.buildSlice 60 3 #[(0, .int .u8 (k : Int)), (1, .int .u8 (l : Int)), (2, .int .u8 (m : Int))]).run Tryz.prog w = .ok (.slice (some ⟨w.heap.size, 0, none⟩) 3 3) (w.alloc (.cells #[.int .u8 (k : Int), .int .u8 (l : Int), .int .u8 (m : Int)] 5)) := by
  have h : (Instr.buildSlice 60 3 #[(0, .int .u8 (k : Int)), (1, .int .u8 (l : Int)), (2, .int .u8 (m : Int))]).run Tryz.prog w = ((newRow 5 #[.int .u8 (k : Int), .int .u8 (l : Int), .int .u8 (m : Int)]).run Tryz.prog w).andThen (fun a w => .ok (.slice (some a) 3 3) w) := by kernel_rfl
  rw [h]
  simp [newRow, run_newObj_alloc, Sem.run_bind, Sem.run_pure, Result.andThen]
section
variable {ops : Array Oper} {rest : List Oper} {o : Oper} {a : Act} {w : World} {Q : Exit → Act → World → Prop}
theorem wpList_sliceB1 (hw : Region.wanted o (yielded ops a.tmps) = true) (x : Operand) (ho : o.op = .buildSlice 60 1 #[(0, x)]) (k : Nat) (hk : k < 256) (hx : a.eval x = .int .u8 (k : Int))
    (h : ∀ W, By W (some ⟨w.heap.size, 0, none⟩) 1 [UInt8.ofNat k] → Below w.heap.size w W → w.heap.size < W.heap.size → wpList Tryz.prog ops Q rest (a.put o.dst (.slice (some ⟨w.heap.size, 0, none⟩) 1 1)) W) : wpList Tryz.prog ops Q (o :: rest) a w := by
  refine BigFrame.wpList_want hw fun K hK => ?_
  have hp : (#[(0, x)] : Array (Nat × Operand)).map (fun (i, x) => (i, a.eval x)) = #[(0, .int .u8 (k : Int))] := by simp [hx]
  have e1 : (execOp a.eval o).run Tryz.prog w = .ok (.value (.slice (some ⟨w.heap.size, 0, none⟩) 1 1)) (w.alloc (.cells #[.int .u8 (k : Int)] 5)) := by
    unfold execOp
    simp only [ho]
    simp only [hp, Sem.run_bind, slice_b1 k w, Result.andThen_ok, Sem.run_pure]
  unfold Oper.wp
  rw [e1]
  refine hK _ _ (h _ ?_ ((Below.refl _ _).alloc (Nat.le_refl _) _) (by simp))
  have hH : Has (w.alloc (.cells #[.int .u8 (k : Int)] 5)) w.heap.size 5 (Bs [UInt8.ofNat k]).toArray := by
    have := Has.new w 5 #[.int .u8 (k : Int)]
    unfold Bs
    rw [List.map_cons, B_nat k hk]
    exact this
  exact by_block hH (by simp)
theorem wpList_sliceB3 (hw : Region.wanted o (yielded ops a.tmps) = true) (x y z : Operand) (ho : o.op = .buildSlice 60 3 #[(0, x), (1, y), (2, z)]) (k l m : Nat) (hk : k < 256) (hl : l < 256) (hm : m < 256) (hx : a.eval x = .int .u8 (k : Int)) (hy : a.eval y = .int .u8 (l : Int)) (hz : a.eval z = .int .u8 (m : Int))
    (h : ∀ W, By W (some ⟨w.heap.size, 0, none⟩) 3 [UInt8.ofNat k, UInt8.ofNat l, UInt8.ofNat m] → Below w.heap.size w W → w.heap.size < W.heap.size → wpList Tryz.prog ops Q rest (a.put o.dst (.slice (some ⟨w.heap.size, 0, none⟩) 3 3)) W) : wpList Tryz.prog ops Q (o :: rest) a w := by
  refine BigFrame.wpList_want hw fun K hK => ?_
  have hp : (#[(0, x), (1, y), (2, z)] : Array (Nat × Operand)).map (fun (i, x) => (i, a.eval x)) = #[(0, .int .u8 (k : Int)), (1, .int .u8 (l : Int)), (2, .int .u8 (m : Int))] := by simp [hx, hy, hz]
  have e1 : (execOp a.eval o).run Tryz.prog w = .ok (.value (.slice (some ⟨w.heap.size, 0, none⟩) 3 3)) (w.alloc (.cells #[.int .u8 (k : Int), .int .u8 (l : Int), .int .u8 (m : Int)] 5)) := by
    unfold execOp
    simp only [ho]
    simp only [hp, Sem.run_bind, slice_b3 k l m w, Result.andThen_ok, Sem.run_pure]
  unfold Oper.wp
  rw [e1]
  refine hK _ _ (h _ ?_ ((Below.refl _ _).alloc (Nat.le_refl _) _) (by simp))
  have hH : Has (w.alloc (.cells #[.int .u8 (k : Int), .int .u8 (l : Int), .int .u8 (m : Int)] 5)) w.heap.size 5 (Bs [UInt8.ofNat k, UInt8.ofNat l, UInt8.ofNat m]).toArray := by
    have := Has.new w 5 #[.int .u8 (k : Int), .int .u8 (l : Int), .int .u8 (m : Int)]
    unfold Bs
    rw [List.map_cons, List.map_cons, List.map_cons, B_nat k hk, B_nat l hl, B_nat m hm]
    exact this
  exact by_block hH (by simp)
theorem mkS_cat (a b : List UInt8) : mkS a ++ mkS b = mkS (a ++ b) := by
  unfold mkS
  apply ByteArray.ext
  simp
theorem wpList_valS {P : Program} (v : Value) (hw : Region.wanted o (yielded ops a.tmps) = true) (hr : ∀ w, (execOp a.eval o).run P w = .ok (.value v) w) (h : wpList P ops Q rest (a.put o.dst v) w) : wpList P ops Q (o :: rest) a w := by
  refine BigFrame.wpList_want hw fun K hK => ?_
  unfold Oper.wp
  rw [hr w]
  exact hK _ _ h
theorem wpList_catS (hw : Region.wanted o (yielded ops a.tmps) = true) (x y : Operand) (ho : o.op = .binOp .add 9 x y 9) (s t : List UInt8) (hl : s.length + t.length ≤ 1000000) (hx : a.eval x = .string (mkS s)) (hy : a.eval y = .string (mkS t))
    (h : wpList Tryz.prog ops Q rest (a.put o.dst (.string (mkS (s ++ t)))) w) : wpList Tryz.prog ops Q (o :: rest) a w := by
  refine wpList_valS _ hw (fun w => ?_) h
  unfold execOp
  simp only [ho, hx, hy]
  rw [← mkS_cat]
  simp [Sem.run_bind, go_sem]
  rw [mkS_size, mkS_size]
  omega
theorem wpList_convS (hw : Region.wanted o (yielded ops a.tmps) = true) (x : Operand) (ho : o.op = .convert 60 9 x) (ao : Option Addr) (n c : Nat) (xs : List UInt8) (hx : a.eval x = .slice ao n c) (hB : By w ao c xs) (hn : n = xs.length)
    (h : wpList Tryz.prog ops Q rest (a.put o.dst (.string (mkS xs))) w) : wpList Tryz.prog ops Q (o :: rest) a w := by
  refine BigFrame.wpList_want hw fun K hK => ?_
  have e1 : (execOp a.eval o).run Tryz.prog w = .ok (.value (.string (mkS xs))) w := by
    unfold execOp
    simp only [ho, hx]
    rw [show (convert 60 9 (.slice ao n c)) = (convert 60 9 (.slice ao n c)) from rfl]
    simp only [Sem.run_bind, str_of hB hn, Result.andThen_ok, Sem.run_pure]
    rfl
  unfold Oper.wp
  rw [e1]
  exact hK _ _ h
end
end
end Go.Proofs.YtpnpjblohijajabGreat
