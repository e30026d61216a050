/- JnlMore, joined. -/
import Derived.Test.YtlalfagafbpkiaaGreatGrp36
import Derived.Test.YtlalfagafbpkiaaGreatPackTools
namespace Go.Proofs.YtlalfagafbpkiaaGreat
section
set_option linter.unusedSimpArgs false
set_option linter.unusedVariables false
set_option maxRecDepth 100000
open Go.RowKit Go.MapKept

theorem JL.but {w0 w w' : World} {j p kb mb n N : Nat} {lo : Option Addr} {lc : Nat} {l : List (List UInt8)} (H : JL w0 w j p kb mb n lo lc l N) (hok : JOk w' j p kb mb n 0 lo lc l N) (hb : But j w w') : JL w0 w' j p kb mb n lo lc l N :=
  ⟨hok, H.new, H.below.trans ((OffF.but hb).below (fun k hk => by rw [hk]; exact H.new _ (.inl rfl)) H.below.size)⟩
theorem append_no_on (w0 : World) (j p kb mb n : Nat) (lo : Option Addr) (lc : Nat) (l : List (List UInt8)) (N : Nat) (s : List UInt8) (w : World) (H : JL w0 w j p kb mb n lo lc l N) (hs : 20000 < s.length ∨ ¬ takenM l + (s.length + 16) ≤ limitM n) :
    Calls Tryz.prog 15 #[.pointer (some ⟨j, 0, none⟩), strV s] w fun e w' => e = .returned (.int .i64 (if 20000 < s.length then 10 else 140)) ∧ JL w0 w' j p kb mb n lo lc l N ∧ But j w w' := by
  refine (append_no j p kb mb n 0 lo lc l N s w H.ok hs).mono ?_
  rintro e w' ⟨rfl, h1, h2⟩
  exact ⟨rfl, H.but h1 h2, h2⟩
theorem replace_no_on (w0 : World) (j p kb mb n : Nat) (lo : Option Addr) (lc : Nat) (l : List (List UInt8)) (N : Nat) (so : Option Addr) (sc : Nat) (m : List (List UInt8)) (w : World) (H : JL w0 w j p kb mb n lo lc l N) (hS : Strs w so sc m) (htm : takenM m ≤ 100000000) (hm : ∃ r ∈ m, 20000 < r.length) (hlim : takenM m ≤ limitM n) :
    Calls Tryz.prog 29 #[.pointer (some ⟨j, 0, none⟩), .slice so m.length sc] w fun e w' => e = .returned (.int .i64 10) ∧ JL w0 w' j p kb mb n lo lc l N ∧ But j w w' := by
  refine (replace_no j p kb mb n 0 lo lc l N so sc m w H.ok hS htm (.inl hm)).mono ?_
  rintro e w' ⟨h1 | ⟨_, h1⟩, h2, h3⟩
  · exact ⟨h1.1, H.but h2 h3, h3⟩
  · exact absurd hlim h1
theorem all_on (w0 : World) (j p kb mb n : Nat) (lo : Option Addr) (lc : Nat) (l : List (List UInt8)) (N : Nat) (w : World) (H : JL w0 w j p kb mb n lo lc l N) :
    Calls Tryz.prog 13 #[.pointer (some ⟨j, 0, none⟩)] w fun e w' => ∃ bo bc, e = .returned (.slice bo l.length bc) ∧ Strs w' bo bc l ∧ (∀ ad, bo = some ad → w.heap.size ≤ ad.block ∧ ad.block < w'.heap.size) ∧ JL w0 w' j p kb mb n lo lc l N ∧ Below w.heap.size w w' := by
  refine (all_face j p kb mb n 0 lo lc l N w H.ok).mono ?_
  rintro e w' ⟨bo, bc, rfl, hS, hb, hq⟩
  exact ⟨bo, bc, rfl, hS, hb, H.later hq, hq⟩
theorem room_on (w0 : World) (j p kb mb n : Nat) (lo : Option Addr) (lc : Nat) (l : List (List UInt8)) (N : Nat) (w : World) (H : JL w0 w j p kb mb n lo lc l N) :
    Calls Tryz.prog 30 #[.pointer (some ⟨j, 0, none⟩)] w fun e w' => e = .returned (.int .i64 (roomM n l : Nat)) ∧ JL w0 w' j p kb mb n lo lc l N ∧ Below w.heap.size w w' := by
  refine (room_face j p kb mb n 0 lo lc l N w H.ok).mono ?_
  rintro e w' ⟨rfl, rfl⟩
  exact ⟨rfl, H.later (Below.refl _ _).drew, (Below.refl _ _).drew⟩
theorem zero_has (n : Nat) (b : Nat) (w0 w : World) (h : w.ownsRow b 5 1 (.slice (some ⟨w0.heap.size, 0, none⟩) n n) n (madeCells (Value.int .u8 0).cells (n * 1)).toList) (hn : n ≤ 1000000) : By w (some ⟨w0.heap.size, 0, none⟩) n (List.replicate n 0) := by
  rw [made0] at h
  have hG : Has w w0.heap.size 5 (Bs (List.replicate n 0)).toArray := bytes_has (by simp) h
  refine ⟨by simp, by omega, (fun z => by cases z), fun ad had j u hu => ?_⟩
  cases had
  have := hG.cell j
  rw [List.getElem?_toArray, hu] at this
  rw [← this]
  unfold Addr.add
  split
  · subst_vars; rfl
  · show w.cell? ⟨_, 0 + j, none⟩ = _
    rw [Nat.zero_add]
theorem zero_str (n : Nat) (w : World) (a : Option Addr) (h : By w a n (List.replicate n 0)) : (convert 31 9 (.slice a n n)).run Tryz.prog w = .ok (strV (List.replicate n 0)) w :=
  str_of h (by simp)
section
variable {ops : Array Oper} {rest : List Oper} {o : Oper} {a : Act} {w : World} {Q : Exit → Act → World → Prop}
theorem wpList_sliceS (hw : Region.wanted o (yielded ops a.tmps) = true) (x : Operand) (ho : o.op = .buildSlice 30 1 #[(0, x)]) (s : List UInt8) (hx : a.eval x = strV s)
    (h : wpList Tryz.prog ops Q rest (a.put o.dst (.slice (some ⟨w.heap.size, 0, none⟩) 1 1)) (w.alloc (.cells #[strV s] 9))) : wpList Tryz.prog ops Q (o :: rest) a w := by
  refine BigFrame.wpList_want hw fun K hK => ?_
  have hp : (#[(0, x)] : Array (Nat × Operand)).map (fun (i, x) => (i, a.eval x)) = #[(0, strV s)] := by simp [hx]
  have e : (execOp a.eval o).run Tryz.prog w = .ok (.value (.slice (some ⟨w.heap.size, 0, none⟩) 1 1)) (w.alloc (.cells #[strV s] 9)) := by
    unfold execOp
    simp only [ho]
    simp only [hp, Sem.run_bind, slice_one_s s w, Result.andThen_ok, Sem.run_pure]
  unfold Oper.wp
  rw [e]
  exact hK _ _ h
end
/-- The remainder of a number of 16 bits by one above nought. -/
theorem run_rem_u16 {P : Program} {o : Oper} {ev : Operand → Value} (ty ty' : TypeId) (x y : Operand) (ho : o.op = .binOp .rem ty x y ty') (n m k : Nat) (hx : ev x = .int .u16 (n : Int)) (hy : ev y = .int .u16 (m : Int)) (hn : n < 65536) (hm : 0 < m) (hk : n % m = k) (w : World) :
    (execOp ev o).run P w = .ok (.value (.int .u16 (k : Int))) w := by
  subst hk
  have h1 : ((m : Int) = 0) = False := by simp; omega
  have h2 : (n : Int).tmod (m : Int) = ((n % m : Nat) : Int) := rfl
  have h3 : n % m < 65536 := Nat.lt_of_le_of_lt (Nat.mod_le _ _) hn
  have h4 : IntKind.u16.wrap ((n % m : Nat) : Int) = ((n % m : Nat) : Int) := by
    simp [IntKind.wrap, IntKind.bits, IntKind.signed]
    omega
  unfold execOp
  simp only [ho, hx, hy]
  simp [Sem.run_bind, go_sem, h1, h2, h4]
  omega
end
end Go.Proofs.YtlalfagafbpkiaaGreat
