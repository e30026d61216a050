/- paddocklaw2.StrawDraws returns true, whatever the group, the try and the weights; nothing that was there is written. -/
import Derived.Test.YtkfimghpoepfcaaStrawBest
import Derived.Deep.DrawnRows
import Derived.Deep.RegionHeld3
namespace Go.Proofs.Ytkfimghpoepfcaa
open Go.RowKit
set_option linter.unusedVariables false

theorem Try.infoI64 : (Try.prog.info? 2).map (fun i => (i.zero, i.size, i.bytes)) = some (some (.int .i64 0), 1, 8) := by kernel_rfl

/-- Numbers as values. -/
def Vs (xs : List Int) : List Value := xs.map (Value.int .i64)

/-- Weights that lie in a block. -/
def Ws (w : World) (g : Nat) (ws : List Int) : Prop := ∀ (j : Nat) (h : j < ws.length), w.cell? ⟨g, j, none⟩ = some (.int .u8 ws[j])

theorem Ws.later {w w' : World} {g : Nat} {ws : List Int} (h : Ws w g ws) (hb : Below w.heap.size w w') : Ws w' g ws := by
  intro j hj
  have hc := h j hj
  have hlt := World.block_lt_of_cell? w _ hc
  rw [hb.cell hlt]
  exact hc

theorem own_later {w w' : World} {base n : Nat} {e : TypeId} {v : Value} {xs : List Value} (h : w.ownsRow base e 1 v n xs) (hb : Below w.heap.size w w') : w'.ownsRow base e 1 v n xs := by
  refine ⟨h.1, ?_⟩
  rcases h.2 with h | ⟨g, cap, cur, hv, hg, hc, hr⟩
  · exact .inl h
  · refine .inr ⟨g, cap, cur, hv, hg, ?_, hr⟩
    rw [hb.block g (by have := (Array.getElem?_eq_some_iff.1 hc).1; exact this)]
    exact hc

/-- The draw of the daemon n. -/
def dI (g : Nat) (t : Int) (ws : List Int) (n : Nat) : Int := drawI g n t (ws.getD n 0 % 16 + 1)

/-- The draws of the first n daemons. -/
def dL (g : Nat) (t : Int) (ws : List Int) (n : Nat) : List Int := (List.range n).map (dI g t ws)

theorem dL_succ (g : Nat) (t : Int) (ws : List Int) (n : Nat) : Vs (dL g t ws (n + 1)) = Vs (dL g t ws n) ++ [.int .i64 (dI g t ws n)] := by
  simp [dL, Vs, List.range_succ]

theorem is_own {w : World} {base n : Nat} {v : Value} {xs : List Int} (h : w.ownsRow base 2 1 v n (Vs xs)) (hn : n ≠ 0) (hx : ∀ x ∈ xs, -9223372036854775808 ≤ x ∧ x ≤ 9223372036854775807) :
    ∃ g cap, v = .slice (some ⟨g, 0, none⟩) n cap ∧ Is w (some ⟨g, 0, none⟩) cap xs ∧ n = xs.length := by
  have hl : n = xs.length := by have := h.1; simp [Vs] at this; omega
  rcases h.2 with ⟨_, h0⟩ | ⟨g, cap, cur, hv, hg, hc, hle, hm, hr⟩
  · exact absurd h0 hn
  · refine ⟨g, cap, hv, ⟨by omega, hm, (fun h => by cases h), fun ad had j hj => ?_, hx⟩, hl⟩
    obtain rfl := Option.some.inj had
    exact h.cells (g := g) (by rw [hv]; rfl) j _ (by simp [Vs, hj])

theorem dL_bd (g : Nat) (t : Int) (ws : List Int) (n : Nat) : ∀ x ∈ dL g t ws n, -9223372036854775808 ≤ x ∧ x ≤ 9223372036854775807 := by
  intro x hx
  obtain ⟨k, _, rfl⟩ := List.mem_map.1 hx
  have := strawI_bd (hashN g (lowN k) (lowN t)) (ws.getD k 0 % 16 + 1)
  show -9223372036854775808 ≤ strawI _ _ ∧ strawI _ _ ≤ 9223372036854775807
  omega

theorem cell_later {w w' : World} {a : Addr} {v : Value} (h : w.cell? a = some v) (hb : Below w.heap.size w w') : w'.cell? a = some v := by
  rw [hb.cell (World.block_lt_of_cell? w _ h)]
  exact h

theorem ws_new (w : World) (ws : List Int) : Ws (w.alloc (.cells (ws.map (Value.int .u8)).toArray 36)) w.heap.size ws := by
  intro j hj
  simp [hj]

set_option maxRecDepth 100000 in
set_option maxHeartbeats 2000000 in
theorem draws_walk (g : Nat) (t : Nat) (ws : List Int) (w : World) (hg : g < 256) (ht : t < 256) (hl : ws.length = 5) (hw : ∀ x ∈ ws, 0 ≤ x ∧ x ≤ 255) :
    Calls Try.prog 8 #[.int .u8 g, .int .u8 t, .agg (ws.map (Value.int .u8)).toArray] w fun e w' => e = .returned (.bool true) ∧ Below w.heap.size w w' := by
  obtain ⟨i0, hi, hz0, hz1, hz2⟩ := info_parts Try.infoI64
  go_enter Try.func8, Try.ntmps8
  go_wp2_with (go_at_call 9; refine (known_any _).mono ?_; rintro e w1 ⟨rfl, hb1⟩)
  have hW0 : Ws (w.alloc (.cells (ws.map (Value.int .u8)).toArray 36)) w.heap.size ws := ws_new w ws
  have hW1 := hW0.later hb1
  have hbw : Below w.heap.size w w1 := ((Below.refl _ _).alloc (Nat.le_refl _) _).trans (hb1.mono (by simp))
  clear hb1 hW0
  go_loopw [7, 8] (fun v i wr => ∃ n : Nat, n ≤ 5 ∧ i = .int .i64 n ∧ wr.ownsRow w1.heap.size 2 1 v n (Vs (dL g t ws n)) ∧ Below w1.heap.size w1 wr) (fun _ i _ => (5 - intOf i).toNat)
  case atStart => exact ⟨0, by decide, rfl, World.ownsRow_nil _ _ _ _, Below.refl _ _⟩
  case round =>
    obtain ⟨n, hn, rfl, hown, hbr⟩ := hrel
    by_cases hlt : n < 5
    · have hc := hW1.later hbr n (by omega)
      have hx := hw ws[n] (List.getElem_mem (by omega))
      have hd : Hid (drawI g n t (ws[n] % 16 + 1) = dI g t ws n) := by
        unfold dI
        rw [show ws.getD n 0 = ws[n] by simp [List.getD, show n < ws.length by omega]]
        rfl
      generalize ws[n] = x at *
      go_wp2_with fail
      refine (draw_any g n t (x % 16 + 1) _ hg (by omega) (by omega)).mono ?_
      rintro e w2 ⟨rfl, hb2⟩
      rw [hd.out]
      have hown2 := own_later hown hb2
      replace hbr := hbr.trans (hb2.mono hbr.size)
      clear hb2 hown hc
      go_wp2_with (at_builtin; refine wpList_append_own _ rfl _ _ 32 rfl w1.heap.size 2 i0 (.int .i64 0) 1 8 Try.underlying32 hi hz0 hz1 hz2 rfl (by decide) _ n _ rfl (hown2.alloc _) ⟨w2.heap.size, 0, none⟩ 1 1 [.int .i64 (dI g t ws n)] rfl rfl ?c1 ?c2 (by unfold maxLen; omega) (by omega) (by have := hbr.size; simp; omega) ?_)
      case c1 =>
        intro j u hj
        match j, hj with
        | 0, hj => simp at hj; subst hj; simp [Addr.add]
      case c2 => intro u hu; simp at hu; subst hu; rfl
      intro v' w3 hown3 hgrow _
      have hb3 : Below w1.heap.size w1 w3 := (hbr.alloc hbr.size _).grown hgrow (by have := hbr.size; simp; omega) (fun k hk => (hown2.lt k hk).1)
      rw [← dL_succ] at hown3
      clear hown2 hgrow hbr
      go_wp2
      go_roundw
      case rel => exact ⟨n + 1, by omega, by go_num, hown3, hb3⟩
      case measure => simp [intOf]; omega
    · have : n = 5 := by omega
      subst this
      obtain ⟨G, cap, rfl, hI, hlen0⟩ := is_own hown (by decide) (dL_bd g t ws 5)
      have hlen : Hid (5 = (dL g t ws 5).length) := hlen0
      have hcap := hI.cap
      have h5c : 5 ≤ cap := by have := hI.le; omega
      have hD : Hid (∀ n : Nat, n < 5 → (dL g t ws 5).getD n 0 = drawI g n t (ws.getD n 0 % 16 + 1)) := by
        intro n hn
        simp [dL, List.getD, hn, dI]
      generalize dL g t ws 5 = L at *
      clear hown hlt hn hlen0
      go_wp2_with fail
      have hbest := best_any _ cap L _ hI
      rw [← hlen.out] at hbest
      refine hbest.mono ?_
      rintro e w2 ⟨k, rfl, hB, rfl⟩
      obtain ⟨m, rfl, hm, hB⟩ : ∃ m : Nat, k = m ∧ m < 5 ∧ Hid (∀ j : Nat, j < 5 → L.getD j 0 ≤ L.getD m 0) := by
        rcases hB with ⟨h, _⟩ | ⟨m, e, hm, h⟩
        · cases h
        · exact ⟨m, e, hm, fun j hj => (h j hj).1⟩
      clear hbest
      go_wp2
      go_loopw [10] (fun i wr => ∃ n : Nat, n ≤ 5 ∧ i = .int .i64 n ∧ Is wr (some ⟨G, 0, none⟩) cap L ∧ Below w1.heap.size w1 wr) (fun i _ => (5 - intOf i).toNat)
      case atStart => exact ⟨0, by decide, rfl, hI, hbr⟩
      case round =>
        obtain ⟨n, hn, rfl, hI2, hb2⟩ := hrel
        by_cases hlt : n < 5
        · have hnL : n < L.length := by have := hlen.out; omega
          have hmL : m < L.length := by have := hlen.out; omega
          have hc1 := hI2.at' _ rfl n hnL
          have hc2 := hI2.at' _ rfl m hmL
          have hc3 := hW1.later hb2 n (by omega)
          have hx := hw ws[n] (List.getElem_mem (by omega))
          have e1 : L.getD n 0 = L[n] := by simp [List.getD, hnL]
          have e2 : L.getD m 0 = L[m] := by simp [List.getD, hmL]
          have hd : Hid (drawI g n t (ws[n] % 16 + 1) = L[n]) := by
            have := hD.out n hlt
            rw [e1, show ws.getD n 0 = ws[n] by simp [List.getD, show n < ws.length by omega]] at this
            exact this.symm
          have d1 : decide (L[m] < L[n]) = false := by
            rw [decide_eq_false_iff_not]
            have := hB.out n hlt
            omega
          clear e1 e2
          rw [Addr.add_lit, Nat.zero_add] at hc1 hc2
          have i1 : (n : Int) < 5 := by omega
          have i2 : (m : Int) < 5 := by omega
          generalize L[n] = X at *
          generalize L[m] = Y at *
          generalize ws[n] = x at *
          have hwt : Hid (IntKind.i64.wrap (t : Int) = t) := by show _ = _; rw [IntKind.wrap_i64]; omega
          have hwx : Hid (IntKind.i64.wrap (IntKind.i64.wrap (x.tmod 16) + 1) = x % 16 + 1) := by
            show _ = _
            rw [Int.tmod_eq_emod_of_nonneg hx.1, IntKind.wrap_i64, IntKind.wrap_i64]
            omega
          clear hnL hmL hD hB hI hbr
          replace hI2 := hI2.later ((Below.refl _ _).drew)
          replace hc1 : wr.drew.cell? ⟨G, n, none⟩ = some (.int .i64 X) := hc1
          replace hc2 : wr.drew.cell? ⟨G, m, none⟩ = some (.int .i64 Y) := hc2
          replace hc3 : wr.drew.cell? ⟨w.heap.size, n, none⟩ = some (.int .u8 x) := hc3
          replace hb2 := hb2.drew
          go_wp2_with fail
          go_region_held3 (fun W => W.cell? ⟨G, n, none⟩ = some (.int .i64 X) ∧ W.cell? ⟨G, m, none⟩ = some (.int .i64 Y) ∧ W.cell? ⟨w.heap.size, n, none⟩ = some (.int .u8 x))
            (exact ⟨hc1, hc2, hc3⟩)
            ((go_at_call 14; rw [hwt.out, hwx.out]; refine (draw_any g n t (x % 16 + 1) _ hg (by omega) (by omega)).mono ?_; rintro e w5 ⟨rfl, hb5⟩; rw [hd.out]; replace hc1 := cell_later hc1 hb5; replace hc2 := cell_later hc2 hb5; replace hc3 := cell_later hc3 hb5; replace hI2 := hI2.later hb5; replace hb2 := hb2.trans (hb5.mono hb2.size); clear hb5))
          all_goals
            go_wp2
            go_roundw
            case rel => exact ⟨n + 1, by omega, by go_num, hI2, hb2⟩
            case measure => simp [intOf]; omega
        · go_wp2
          go_ret
          exact ⟨rfl, hbw.trans (hb2.mono hbw.size)⟩
end Go.Proofs.Ytkfimghpoepfcaa
