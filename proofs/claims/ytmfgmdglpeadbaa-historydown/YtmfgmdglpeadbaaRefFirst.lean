/- The contract of the document's First. -/
import Derived.Test.YtmfgmdglpeadbaaMapMem
namespace Go.Proofs.Ytmfgmdglpeadbaa
set_option linter.unusedSimpArgs false
set_option linter.unusedVariables false
open Go.RowKit

/-- First, as far as it is made. -/
def firstTo (n : Nat) : MapV := ⟨1, fun i => if i.val < n then ⟨true, 8, i.val % 4⟩ else ⟨false, 0, 0⟩⟩

theorem firstTo_5 : firstTo 5 = firstM := by
  unfold firstTo firstM
  congr 1
  funext i
  simp [i.isLt]

theorem firstTo_succ (i : Fin 5) : MapV.put (firstTo i.val) i ⟨true, 8, i.val % 4⟩ = firstTo (i.val + 1) := by
  unfold MapV.put firstTo
  congr 1
  funext j
  by_cases h : j = i
  · subst h
    simp
  · have : j.val ≠ i.val := fun e => h (Fin.ext e)
    by_cases h2 : j.val < i.val
    · simp [h, h2, show j.val < i.val + 1 by omega]
    · simp [h, h2, show ¬ j.val < i.val + 1 by omega]

theorem firstTo_0 : firstTo 0 = { zeroM with epoch := 1 } := by
  unfold firstTo zeroM
  simp

theorem Has.put3 {w : World} {g : Nat} {t : TypeId} {m : MapV} (h : Has w g t (mapC m)) (i : Fin 5) (u : Bool) (n : Int) (k : Nat) :
    Has (((w.setCell ⟨g, 1 + i.val * 3, none⟩ (.bool u)).setCell ⟨g, 1 + i.val * 3 + 1, none⟩ (.int .i64 n)).setCell ⟨g, 1 + i.val * 3 + 2, none⟩ (.int .u8 k)) g t (mapC (m.put i ⟨u, n, k⟩)) := by
  have h1 := h.set (1 + i.val * 3) (.bool u)
  rw [mapC_setUp] at h1
  have h2 := h1.set (1 + i.val * 3 + 1) (.int .i64 n)
  rw [mapC_setWt] at h2
  have h3 := h2.set (1 + i.val * 3 + 2) (.int .u8 k)
  rw [mapC_setHost] at h3
  simp only [MapV.put_put, MapV.put_at] at h3
  exact h3

theorem build_first {ops : Array Oper} {rest : List Oper} {o : Oper} {a : Act} {w : World} {Q : Exit → Act → World → Prop} (hw : Region.wanted o (yielded ops a.tmps) = true) (ho : o.op = .build 44 #[(0, .const (.int .u32 1))])
    (h : wpList Try.prog ops Q rest (a.put o.dst (.agg (mapC (firstTo 0)))) w) : wpList Try.prog ops Q (o :: rest) a w :=
  wpList_build_has hw 44 _ ho (mapC (firstTo 0)) (by
    have h : Try.prog.built 44 [(0, .int .u32 1)] = some (mapC { zeroM with epoch := 1 }) := by kernel_rfl
    rw [firstTo_0]
    simp only [List.map_toArray, List.map_cons, List.map_nil, BigFrame.eval_const]
    exact h) h

set_option maxRecDepth 100000 in
set_option maxHeartbeats 1000000 in
theorem reffirst_any (w : World) :
    Calls Try.prog 33 #[] w fun e w' => e = .returned (.agg (mapC firstM)) ∧ Below w.heap.size w w' := by
  have hA : Has ((w.alloc (.cells (mapC zeroM) 44)).alloc (.cells (mapC zeroM) 44)) (w.heap.size + 1) 44 (mapC zeroM) := by
    have := Has.new (w.alloc (.cells (mapC zeroM) 44)) 44 (mapC zeroM)
    simpa using this
  have hR : Has ((w.alloc (.cells (mapC zeroM) 44)).alloc (.cells (mapC zeroM) 44)) w.heap.size 44 (mapC zeroM) := (Has.new _ _ _).alloc _
  have hb : Below w.heap.size w ((w.alloc (.cells (mapC zeroM) 44)).alloc (.cells (mapC zeroM) 44)) := ((Below.refl _ _).alloc (Nat.le_refl _) _).alloc (by simp) _
  go_enter Try.func33, Try.ntmps33
  go_wp2_with (first
    | (refine alloc_map (by rfl) rfl ?_)
    | (refine build_first (by rfl) rfl ?_)
    | (refine store_map _ zeroM (by rfl) _ _ rfl _ rfl rfl (Has.new _ _ _) ?_))
  have hA1 := hA.row (mapC (firstTo 0))
  have hR1 := hR.row_other (k := w.heap.size + 1) (by omega) (mapC (firstTo 0))
  have hb1 := below_setRow (g := w.heap.size + 1) hb (by omega) (mapC (firstTo 0))
  clear hA hR hb
  generalize ((w.alloc (.cells (mapC zeroM) 44)).alloc (.cells (mapC zeroM) 44)).setRow (w.heap.size + 1) (mapC (firstTo 0)) = w1 at *
  go_loopw [2] (fun i wr => ∃ n : Nat, n ≤ 5 ∧ i = .int .i64 n ∧ Has wr (w.heap.size + 1) 44 (mapC (firstTo n)) ∧ Has wr w.heap.size 44 (mapC zeroM) ∧ Below w.heap.size w wr) (fun i _ => (5 - intOf i).toNat)
  case atStart => exact ⟨0, by decide, rfl, hA1, hR1, hb1⟩
  case round =>
    obtain ⟨n, hn, rfl, hA2, hR2, hb2⟩ := hrel
    by_cases hlt : n < 5
    · have c0 := hA2.cell (1 + n * 3)
      have c1 := hA2.cell (1 + n * 3 + 1)
      have c2 := hA2.cell (1 + n * 3 + 2)
      rw [mapC_up _ ⟨n, hlt⟩] at c0
      rw [mapC_wt _ ⟨n, hlt⟩] at c1
      rw [mapC_host _ ⟨n, hlt⟩] at c2
      have f0 := hA2.free
      have hA3 := hA2.put3 ⟨n, hlt⟩ true 8 (n % 4)
      rw [firstTo_succ ⟨n, hlt⟩] at hA3
      go_wp2
      go_roundw
      case rel => exact ⟨n + 1, by omega, by go_num, hA3, ((hR2.set_other (by simp) _).set_other (by simp) _).set_other (by simp) _, ((hb2.setCell (by simp) _).setCell (by simp) _).setCell (by simp) _⟩
      case measure => simp [intOf]; omega
    · have e5 : n = 5 := by omega
      subst e5
      rw [firstTo_5] at hA2
      go_wp2_with (first
        | (refine load_map _ (by rfl) _ rfl _ rfl hA2 ?_)
        | (refine store_map _ zeroM (by rfl) _ _ rfl _ rfl rfl hR2 ?_))
      exact ret_map _ rfl _ rfl (hR2.row _) rfl ⟨rfl, below_setRow hb2 (Nat.le_refl _) _⟩
end Go.Proofs.Ytmfgmdglpeadbaa
