/- The contract of the document's First. -/
import Derived.Test.YtmobdnaejfldnabMapMem
namespace Go.Proofs.Ytmobdnaejfldnab
set_option linter.unusedSimpArgs false
set_option linter.unusedVariables false
open Go.RowKit

/-- First, as far as it is made. -/
def firstTo (n : Nat) : MapV := ⟨1, fun i => if i.val < n then ⟨true, 8, i.val % 4⟩ else ⟨false, 0, 0⟩⟩

theorem firstTo_5 : firstTo 5 = firstM := by
  unfold firstTo firstM
  congr 1
  funext i
  simp [i.isLt]

theorem firstTo_succ (i : Fin 5) : MapV.put (firstTo i.val) i ⟨true, 8, i.val % 4⟩ = firstTo (i.val + 1) := by
  unfold MapV.put firstTo
  congr 1
  funext j
  by_cases h : j = i
  · subst h
    simp
  · have : j.val ≠ i.val := fun e => h (Fin.ext e)
    by_cases h2 : j.val < i.val
    · simp [h, h2, show j.val < i.val + 1 by omega]
    · simp [h, h2, show ¬ j.val < i.val + 1 by omega]

theorem firstTo_0 : firstTo 0 = { zeroM with epoch := 1 } := by
  unfold firstTo zeroM
  simp

theorem Has.put3 {w : World} {g : Nat} {t : TypeId} {m : MapV} (h : Has w g t (mapC m)) (i : Fin 5) (u : Bool) (n : Int) (k : Nat) :
    Has (((w.setCell ⟨g, 1 + i.val * 3, none⟩ (.bool u)).setCell ⟨g, 1 + i.val * 3 + 1, none⟩ (.int .i64 n)).setCell ⟨g, 1 + i.val * 3 + 2, none⟩ (.int .u8 k)) g t (mapC (m.put i ⟨u, n, k⟩)) := by
  have h1 := h.set (1 + i.val * 3) (.bool u)
  rw [mapC_setUp] at h1
  have h2 := h1.set (1 + i.val * 3 + 1) (.int .i64 n)
  rw [mapC_setWt] at h2
  have h3 := h2.set (1 + i.val * 3 + 2) (.int .u8 k)
  rw [mapC_setHost] at h3
  simp only [MapV.put_put, MapV.put_at] at h3
  exact h3

theorem build_first {ops : Array Oper} {rest : List Oper} {o : Oper} {a : Act} {w : World} {Q : Exit → Act → World → Prop} (hw : Region.wanted o (yielded ops a.tmps) = true) (ho : o.op = .build 28 #[(0, .const (.int .u32 1))])
    (h : wpList Try.prog ops Q rest (a.put o.dst (.agg (mapC (firstTo 0)))) w) : wpList Try.prog ops Q (o :: rest) a w :=
  wpList_build_has hw 28 _ ho (mapC (firstTo 0)) (by
    have h : Try.prog.built 28 [(0, .int .u32 1)] = some (mapC { zeroM with epoch := 1 }) := by kernel_rfl
    rw [firstTo_0]
    simp only [List.map_toArray, List.map_cons, List.map_nil, BigFrame.eval_const]
    exact h) h

end Go.Proofs.Ytmobdnaejfldnab
