/- The contracts of maps.heldWeight and maps.held. -/
import Derived.Test.YtmfgmdglpeadbaaMapMem
import Derived.Test.YtmfgmdglpeadbaaPart
namespace Go.Proofs.Ytmfgmdglpeadbaa
set_option linter.unusedSimpArgs false
set_option linter.unusedVariables false
open Go.RowKit

def heldWt (n : Int) : Int := if 16 < (if n < 0 then 0 else n) then 16 else (if n < 0 then 0 else n)
def maxE (n : Nat) : Nat := if n < 1 then 1 else n
def heldE (n : Nat) : Nat := if 60 < maxE n then 60 else maxE n
def heldH (n : Nat) : Nat := if 7 < n then 7 else n
def heldO (o : OsdV) : OsdV := ⟨o.up, heldWt o.wt, heldH o.host⟩
def heldM (m : MapV) : MapV := ⟨heldE m.epoch, fun i => heldO (m.osd i)⟩

/-- Held up to a daemon. -/
def heldTo (m : MapV) (n : Nat) : MapV := ⟨heldE m.epoch, fun i => if i.val < n then heldO (m.osd i) else m.osd i⟩

theorem heldTo_0 (m : MapV) : heldTo m 0 = { m with epoch := heldE m.epoch } := by
  unfold heldTo
  simp

theorem heldTo_5 (m : MapV) : heldTo m 5 = heldM m := by
  unfold heldTo heldM
  congr 1
  funext i
  simp [i.isLt]

theorem heldTo_at (m : MapV) (i : Fin 5) : (heldTo m i.val).osd i = m.osd i := by
  unfold heldTo
  simp

theorem heldTo_succ (m : MapV) (i : Fin 5) : MapV.put (heldTo m i.val) i (heldO (m.osd i)) = heldTo m (i.val + 1) := by
  unfold MapV.put heldTo
  congr 1
  funext j
  by_cases h : j = i
  · subst h
    simp
  · have : j.val ≠ i.val := fun e => h (Fin.ext e)
    by_cases h2 : j.val < i.val
    · simp [h, h2, show j.val < i.val + 1 by omega]
    · simp [h, h2, show ¬ j.val < i.val + 1 by omega]

/-- The fifteen cells of a map's daemons. -/
def osdsL (m : MapV) : List Value := osdL (m.osd 0) ++ (osdL (m.osd 1) ++ (osdL (m.osd 2) ++ (osdL (m.osd 3) ++ osdL (m.osd 4))))

theorem osdsL_at (m : MapV) (i : Fin 5) : ((osdsL m).toArray.extract (i.val * 3) (i.val * 3 + 3)) = osdC (m.osd i) := by
  match i with
  | 0 => rfl
  | 1 => rfl
  | 2 => rfl
  | 3 => rfl
  | 4 => rfl

theorem mapC_osds (m : MapV) (j : Nat) (v : Value) (h : (osdsL m)[j]? = some v) : (mapC m)[1 + j]? = some v := by
  unfold mapC mapL
  rw [List.getElem?_toArray, Nat.add_comm]
  exact h

theorem osds_size (m : MapV) : (Try.prog.info? 42).map (·.size) = some (osdsL m).length := by
  show _ = some 15
  kernel_rfl
theorem osd_size : (Try.prog.info? 41).map (·.size) = some 3 := by kernel_rfl
theorem osd_zero : (Try.prog.info? 41).map (·.zero) = some (some (.agg (osdC ⟨false, 0, 0⟩))) := by kernel_rfl
theorem osdC_size (o : OsdV) : (osdC o).size = 3 := rfl
theorem osdC_one (o : OsdV) : (osdC o).all (·.oneCell') = true := by
  unfold osdC osdL
  simp [Value.oneCell']

section laws
variable {ops : Array Oper} {rest : List Oper} {o : Oper} {a : Act} {w : World} {Q : Exit → Act → World → Prop}

/-- The daemons of a map, whole. -/
theorem load_osds (m : MapV) (hw : Region.wanted o (yielded ops a.tmps) = true) (x : Operand) (ho : o.op = .load 42 x) (g : Nat) (hx : a.eval x = .pointer (some ⟨g, 1, none⟩))
    (hg : Has w g 44 (mapC m)) (h : wpList Try.prog ops Q rest (a.put o.dst (.agg (osdsL m).toArray)) w) : wpList Try.prog ops Q (o :: rest) a w :=
  wpList_load_mid' hw 42 x ho g 1 hx (osdsL m) _ (hg.range 1 _ (mapC_osds m)) Try.underlying42 rfl (osds_size m) h

/-- One of them, out of the value. -/
theorem index_osd (m : MapV) (n : Nat) (hn : n < 5) (hw : Region.wanted o (yielded ops a.tmps) = true) (x y : Operand) (ho : o.op = .index 42 x y) (hx : a.eval x = .agg (osdsL m).toArray) (hy : a.eval y = .int .i64 (n : Int))
    (h : wpList Try.prog ops Q rest (a.put o.dst (.agg (osdC (m.osd ⟨n, hn⟩)))) w) : wpList Try.prog ops Q (o :: rest) a w :=
  wpList_index_row hw 42 x y ho n _ hx hy 41 5 3 _ Try.underlying42 hn Try.underlying41 rfl osd_size (by rw [osdsL_at m ⟨n, hn⟩]; exact h)

theorem alloc_osd (hw : Region.wanted o (yielded ops a.tmps) = true) (ho : o.op = .alloc 41)
    (h : wpList Try.prog ops Q rest (a.put o.dst (.pointer (some ⟨w.heap.size, 0, none⟩))) (w.alloc (.cells (osdC ⟨false, 0, 0⟩) 41))) : wpList Try.prog ops Q (o :: rest) a w :=
  wpList_alloc_has hw 41 ho _ osd_zero h

theorem store_osd (v old : OsdV) (hw : Region.wanted o (yielded ops a.tmps) = true) (x y : Operand) (ho : o.op = .store 41 x y) (g : Nat) (hx : a.eval x = .pointer (some ⟨g, 0, none⟩)) (hy : a.eval y = .agg (osdC v))
    (hg : Has w g 41 (osdC old)) (h : wpList Try.prog ops Q rest (a.put o.dst undef) (w.setRow g (osdC v))) : wpList Try.prog ops Q (o :: rest) a w :=
  wpList_store_has hw 41 x y ho g hx (osdC v) hy 41 (osdC old) osd_size rfl (osdC_one v) hg h

theorem load_osd (v : OsdV) (hw : Region.wanted o (yielded ops a.tmps) = true) (x : Operand) (ho : o.op = .load 41 x) (g : Nat) (hx : a.eval x = .pointer (some ⟨g, 0, none⟩))
    (hg : Has w g 41 (osdC v)) (h : wpList Try.prog ops Q rest (a.put o.dst (.agg (osdC v))) w) : wpList Try.prog ops Q (o :: rest) a w :=
  wpList_load_has hw 41 x ho g hx 41 (osdC v) _ Try.underlying41 rfl osd_size hg h
end laws

theorem ret_int {k : IntKind} {a b : Int} (h : a = b) : Ending.returned (.int k a) = .returned (.int k b) := by rw [h]

set_option maxRecDepth 100000 in
theorem heldw_any (n : Int) (w : World) (h0 : -9223372036854775808 ≤ n) (h1 : n ≤ 9223372036854775807) :
    Calls Try.prog 38 #[.int .i64 n] w fun e w' => e = .returned (.int .i64 (heldWt n)) ∧ w' = w := by
  go_enter Try.func38, Try.ntmps38
  go_wp2
  all_goals
    go_ret
    exact ⟨by first | rfl | exact ret_int (by unfold heldWt; split <;> split <;> omega), rfl⟩

theorem osd_cells {w : World} {g : Nat} {t : TypeId} {o : OsdV} (h : Has w g t (osdC o)) :
    w.cell? ⟨g, 0, none⟩ = some (.bool o.up) ∧ w.cell? ⟨g, 1, none⟩ = some (.int .i64 o.wt) ∧ w.cell? ⟨g, 2, none⟩ = some (.int .u8 o.host) := ⟨h.cell 0, h.cell 1, h.cell 2⟩

theorem Has.held {w : World} {g : Nat} {t : TypeId} {m : MapV} {i : Fin 5} (h : Has w g t (mapC (heldTo m i.val))) :
    Has ((w.setCell ⟨g, 1 + i.val * 3 + 1, none⟩ (.int .i64 (heldWt (m.osd i).wt))).setCell ⟨g, 1 + i.val * 3 + 2, none⟩ (.int .u8 (heldH (m.osd i).host : Nat))) g t (mapC (heldTo m (i.val + 1))) := by
  have h1 := h.set (1 + i.val * 3 + 1) (.int .i64 (heldWt (m.osd i).wt))
  rw [mapC_setWt] at h1
  have h2 := h1.set (1 + i.val * 3 + 2) (.int .u8 (heldH (m.osd i).host : Nat))
  rw [mapC_setHost] at h2
  simp only [MapV.put_put, MapV.put_at, heldTo_at] at h2
  rw [← heldTo_succ]
  exact h2

set_option maxRecDepth 100000 in
set_option maxHeartbeats 1000000 in
theorem held_any (m : MapV) (w : World) (hm : MapOk m) :
    Calls Try.prog 48 #[.agg (mapC m)] w fun e w' => e = .returned (.agg (mapC (heldM m))) ∧ Below w.heap.size w w' := by
  have hH1 : Has ((w.alloc (.cells (mapC m) 44)).alloc (.cells (mapC zeroM) 44)) w.heap.size 44 (mapC m) := (Has.new _ _ _).alloc _
  have hH2 : Has ((w.alloc (.cells (mapC m) 44)).alloc (.cells (mapC zeroM) 44)) (w.heap.size + 1) 44 (mapC zeroM) := by
    have := Has.new (w.alloc (.cells (mapC m) 44)) 44 (mapC zeroM)
    simpa using this
  have hbw : Below w.heap.size w ((w.alloc (.cells (mapC m) 44)).alloc (.cells (mapC zeroM) 44)) := ((Below.refl _ _).alloc (Nat.le_refl _) _).alloc (by simp) _
  have c0 := hH1.cell 0
  rw [mapC_epoch] at c0
  have f0 := hH1.free
  have he := hm.epoch
  have e1 : Hid ((if (1 : Int) > (m.epoch : Int) then (1 : Int) else (m.epoch : Int)) = ((maxE m.epoch : Nat) : Int)) := by show _ = _; unfold maxE; split <;> split <;> omega
  have e2 : Hid ((if (60 : Int) < ((maxE m.epoch : Nat) : Int) then (60 : Int) else ((maxE m.epoch : Nat) : Int)) = ((heldE m.epoch : Nat) : Int)) := by show _ = _; unfold heldE; split <;> split <;> omega
  go_enter Try.func48, Try.ntmps48
  go_wp2_with (first
    | (refine alloc_map (by rfl) rfl ?_; generalize (w.alloc (.cells (mapC m) 44)).alloc (.cells (mapC zeroM) 44) = w1 at *; have hN1 := hH1.set 0 (.int .u32 ((heldE m.epoch : Nat) : Int)); rw [mapC_setEpoch, ← heldTo_0] at hN1)
    | (refine wpList_max (by rfl) _ _ _ rfl _ _ _ _ _ rfl rfl e1.out ?_)
    | (refine wpList_min (by rfl) _ _ _ rfl _ _ _ _ _ rfl rfl e2.out ?_)
    | (refine load_osds _ (by rfl) _ rfl _ rfl hN1 ?_))
  have hN2 := hH2.set_other (a := ⟨w.heap.size, 0, none⟩) (by simp) (.int .u32 ((heldE m.epoch : Nat) : Int))
  have hbN : Below w.heap.size w (w1.setCell ⟨w.heap.size, 0, none⟩ (.int .u32 ((heldE m.epoch : Nat) : Int))) := hbw.setCell (Nat.le_refl _) _
  clear hH1 hH2 hbw c0 f0
  generalize w1.setCell ⟨w.heap.size, 0, none⟩ (.int .u32 ((heldE m.epoch : Nat) : Int)) = w2 at *
  go_loopw [12] (fun i wr => ∃ n : Nat, n ≤ 5 ∧ i = .int .i64 n ∧ Has wr w.heap.size 44 (mapC (heldTo m n)) ∧ Has wr (w.heap.size + 1) 44 (mapC zeroM) ∧ Below w.heap.size w wr) (fun i _ => (5 - intOf i).toNat)
  case atStart => exact ⟨0, by decide, rfl, hN1, hN2, hbN⟩
  case round =>
    obtain ⟨n, hn, rfl, hA, hR, hb⟩ := hrel
    by_cases hlt : n < 5
    · have hwt := hm.wt ⟨n, hlt⟩
      have hht := hm.host ⟨n, hlt⟩
      have hlt1 := hR.lt
      have hA1 := (hA.alloc (.cells (osdC ⟨false, 0, 0⟩) 41)).row_other (k := wr.heap.size) (by omega) (osdC (m.osd ⟨n, hlt⟩))
      have hR1 := (hR.alloc (.cells (osdC ⟨false, 0, 0⟩) 41)).row_other (k := wr.heap.size) (by omega) (osdC (m.osd ⟨n, hlt⟩))
      have hO1 := (Has.new wr 41 (osdC ⟨false, 0, 0⟩)).row (osdC (m.osd ⟨n, hlt⟩))
      have hb1 := below_setRow (hb.alloc hb.size (.cells (osdC ⟨false, 0, 0⟩) 41)) hb.size (osdC (m.osd ⟨n, hlt⟩))
      have hat := heldTo_at m ⟨n, hlt⟩
      have hsucc := heldTo_succ m ⟨n, hlt⟩
      have e3 : Hid ((if (7 : Int) < ((m.osd ⟨n, hlt⟩).host : Int) then (7 : Int) else ((m.osd ⟨n, hlt⟩).host : Int)) = ((heldH (m.osd ⟨n, hlt⟩).host : Nat) : Int)) := by show _ = _; unfold heldH; split <;> split <;> omega
      have hne : wr.heap.size ≠ w.heap.size := by omega
      have hne' : w.heap.size ≠ wr.heap.size := by omega
      clear hat hsucc
      go_wp2_with (first
        | (refine index_osd m n hlt (by rfl) _ _ rfl rfl rfl ?_)
        | (refine alloc_osd (by rfl) rfl ?_)
        | (refine store_osd _ _ (by rfl) _ _ rfl _ rfl rfl (Has.new _ _ _) ?_; generalize (wr.alloc (.cells (osdC ⟨false, 0, 0⟩) 41)).setRow wr.heap.size (osdC (m.osd ⟨n, hlt⟩)) = w3 at *; obtain ⟨d0, d1, d2⟩ := osd_cells hO1; have c1 := hA1.cell (1 + n * 3 + 1); have c2 := hA1.cell (1 + n * 3 + 2); rw [mapC_wt _ ⟨n, hlt⟩] at c1; rw [mapC_host _ ⟨n, hlt⟩] at c2; have f1 := hA1.free; have hZ := hA1.held (i := ⟨n, hlt⟩))
        | (go_at_call 38; refine (heldw_any _ _ hwt.1 hwt.2).mono ?_; rintro e w' ⟨rfl, rfl⟩)
        | (refine wpList_min (by rfl) _ _ _ rfl _ _ _ _ _ rfl rfl e3.out ?_))
      go_roundw
      case rel => exact ⟨n + 1, by omega, by go_num, hZ, (hR1.set_other (by simp) _).set_other (by simp) _, (hb1.setCell (Nat.le_refl _) _).setCell (Nat.le_refl _) _⟩
      case measure => simp [intOf]; omega
    · have e5 : n = 5 := by omega
      subst e5
      rw [heldTo_5] at hA
      go_wp2_with (first
        | (refine load_map _ (by rfl) _ rfl _ rfl hA ?_)
        | (refine store_map _ zeroM (by rfl) _ _ rfl _ rfl rfl hR ?_))
      exact ret_map _ rfl _ rfl (hR.row _) rfl ⟨rfl, below_setRow hb (by omega) _⟩
end Go.Proofs.Ytmfgmdglpeadbaa
