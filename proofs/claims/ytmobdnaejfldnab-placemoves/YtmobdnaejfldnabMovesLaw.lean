/- paddocklaw4.PlaceMoves returns true, for whatever weights and daemon. -/
import Derived.Test.YtmobdnaejfldnabPlaceKnown
import Derived.Test.YtmobdnaejfldnabPlaceMoved
import Derived.Test.YtmobdnaejfldnabTurned
import Derived.Test.YtmobdnaejfldnabVal
namespace Go.Proofs.Ytmobdnaejfldnab
set_option linter.unusedSimpArgs false
set_option linter.unusedVariables false
open Go.RowKit

theorem ix_top {w : World} {ad : Addr} {c : Nat} {x : Int} {l : List Int} (h : Ix w (some ad) c (x :: l)) : w.cell? ad = some (.int .i64 x) := by
  have c0 := h.at' ad rfl 0 (by simp)
  have e : ad.add 0 = ad := by cases ad; simp [Addr.add]
  rw [e] at c0
  exact c0

def byteC (ws : Fin 5 → Nat) : Array Value := [Value.int .u8 (ws 0), .int .u8 (ws 1), .int .u8 (ws 2), .int .u8 (ws 3), .int .u8 (ws 4)].toArray

theorem byteC_at (ws : Fin 5 → Nat) (i : Fin 5) : (byteC ws)[i.val]? = some (.int .u8 (ws i)) := by
  unfold byteC
  rw [List.getElem?_toArray]
  match i with
  | 0 => rfl
  | 1 => rfl
  | 2 => rfl
  | 3 => rfl
  | 4 => rfl

theorem bytes_of {xs : List Int} (hl : xs.length = 5) (hx : ∀ x ∈ xs, 0 ≤ x ∧ x ≤ 255) : ∃ ws : Fin 5 → Nat, (xs.map (Value.int .u8)).toArray = byteC ws ∧ ∀ i, ws i < 256 := by
  match xs, hl, hx with
  | [a, b, c, d, e], _, hx =>
    have h0 := hx a (by simp)
    have h1 := hx b (by simp)
    have h2 := hx c (by simp)
    have h3 := hx d (by simp)
    have h4 := hx e (by simp)
    refine ⟨fun i => match i with | 0 => a.toNat | 1 => b.toNat | 2 => c.toNat | 3 => d.toNat | 4 => e.toNat, ?_, ?_⟩
    · unfold byteC
      simp only [List.map_cons, List.map_nil]
      rw [Int.toNat_of_nonneg h0.1, Int.toNat_of_nonneg h1.1, Int.toNat_of_nonneg h2.1, Int.toNat_of_nonneg h3.1, Int.toNat_of_nonneg h4.1]
    · intro i
      match i with
      | 0 => show a.toNat < 256; omega
      | 1 => show b.toNat < 256; omega
      | 2 => show c.toNat < 256; omega
      | 3 => show d.toNat < 256; omega
      | 4 => show e.toNat < 256; omega

/-- Daemons with given weights. -/
def wtsT (ws : Fin 5 → Nat) (j : Fin 5) : OsdV := ⟨true, (ws j % 17 : Nat), j.val % 4⟩

theorem wtsT_ok (ws : Fin 5 → Nat) (i : Fin 5) : osdOk (wtsT ws i) = true := by
  rw [osdOk_is]
  have : ws i % 17 < 17 := Nat.mod_lt _ (by decide)
  exact ⟨by show (0 : Int) ≤ (ws i % 17 : Nat); omega, by show ((ws i % 17 : Nat) : Int) ≤ 16; omega, by show i.val % 4 < 8; omega⟩

theorem wts_step (ws : Fin 5 → Nat) (n : Nat) (h : n < 5) : (mapC (turnM firstM (wtsT ws) n)).setIfInBounds (1 + n * 3 + 1) (.int .i64 (ws ⟨n, h⟩ % 17 : Nat)) = mapC (turnM firstM (wtsT ws) (n + 1)) := by
  rw [mapC_setWt (turnM firstM (wtsT ws) n) ⟨n, h⟩, turnM_at, ← turnM_step firstM (wtsT ws) n h]
  rfl

/-- The map in which a daemon has the greatest weight. -/
def heavyM (m : MapV) (i : Fin 5) : MapV := m.put i { m.osd i with wt := 16 }

theorem heavy_is {m : MapV} (h : isM m = true) (i : Fin 5) : isM (heavyM m i) = true := by
  refine isM_put h ((osdOk_is _).2 ⟨by show (0 : Int) ≤ 16; omega, by show (16 : Int) ≤ 16; omega, ?_⟩)
  exact ((osdOk_is _).1 (((isM_is m).1 h).2 i)).2.2

theorem heavy_first {m : MapV} {g k : Nat} (hi : isM m = true) (hg : g < 4) (hk : k < 5) : ∃ y l', pickM (heavyM m ⟨k, hk⟩) g = y :: l' ∧ (pickM m g = [] ∨ ∃ x l, pickM m g = x :: l ∧ (y = x ∨ y ≠ x ∧ y = (k : Int))) := by
  have e : wtI (heavyM m ⟨k, hk⟩) k = 16 := wtI_put m ⟨k, hk⟩ _
  have hw := wt_of_is hi k hk
  have h0 : 0 ≤ bestM (heavyM m ⟨k, hk⟩) g 0 := best_some (i := k) hk (by rw [e]; omega)
  obtain ⟨l', hl'⟩ := pick_head (heavy_is hi ⟨k, hk⟩) hg h0
  refine ⟨_, l', hl', ?_⟩
  by_cases hm0 : 0 ≤ bestM m g 0
  · obtain ⟨l, hl⟩ := pick_head hi hg hm0
    refine .inr ⟨_, l, hl, ?_⟩
    by_cases hyk : bestM (heavyM m ⟨k, hk⟩) g 0 = (k : Int)
    · by_cases hyx : bestM (heavyM m ⟨k, hk⟩) g 0 = bestM m g 0
      · exact .inl hyx
      · exact .inr ⟨hyx, hyk⟩
    · exact .inl (stays_less (m := m) (n := heavyM m ⟨k, hk⟩) (k := k) (fun j hj hne => wtI_put_other m ⟨k, hk⟩ _ j hj hne) (by rw [e]; exact hw.2) (by rw [e]; omega) h0 hyk).symm
  · exact .inl (pick_none hm0)

set_option maxRecDepth 100000 in
set_option maxHeartbeats 4000000 in
theorem moves_walk (S : PlaceSpec) (ws : Fin 5 → Nat) (o : Nat) (w : World) (hws : ∀ i, ws i < 256) (ho : o < 256) :
    Calls Try.prog 4 #[.agg (byteC ws), .int .u8 o] w fun e w' => e = .returned (.bool true) ∧ Below w.heap.size w w' := by
  have hO0 := Has.new w 34 (byteC ws)
  have hb0 := (Below.refl w.heap.size w).alloc (Nat.le_refl _) (.cells (byteC ws) 34)
  go_enter Try.func4, Try.ntmps4
  go_wp2_with (first
    | (go_at_call 5; refine (pknown_any S _).mono ?_; rintro e w1 ⟨rfl, hq⟩; have hO := hO0.later hq; have hb := hb0.trans (hq.mono hb0.size); clear hq hO0 hb0)
    | (go_at_call 6; refine (first_any _).mono ?_; rintro e w2 ⟨rfl, hq⟩; replace hO := hO.later hq; replace hb := hb.trans (hq.mono hb.size); have hlt := hO.lt; clear hq)
    | (refine alloc_map (by rfl) rfl ?_)
    | (refine store_map firstM zeroM (by rfl) _ _ rfl _ rfl rfl ?hg ?_; (case hg => exact Has.new _ _ _); have hM := (Has.new w2 28 (mapC zeroM)).row (mapC firstM); have hbb := below_setRow ((Below.refl w2.heap.size w2).alloc (Nat.le_refl _) (.cells (mapC zeroM) 28)) (Nat.le_refl _) (mapC firstM); replace hO := hO.later hbb; replace hb := hb.trans (hbb.mono hb.size); clear hbb; generalize (w2.alloc (.cells (mapC zeroM) 28)).setRow w2.heap.size (mapC firstM) = w3 at *))
  have hM : Has w3 w2.heap.size 28 (mapC (turnM firstM (wtsT ws) 0)) := by rw [turnM_0]; exact hM
  go_loopw [6] (fun i wr => ∃ n : Nat, n ≤ 5 ∧ i = .int .i64 n ∧ Has wr w2.heap.size 28 (mapC (turnM firstM (wtsT ws) n)) ∧ Has wr w.heap.size 34 (byteC ws) ∧ Below w.heap.size w wr) (fun i _ => (5 - intOf i).toNat)
  case atStart => exact ⟨0, by decide, rfl, hM, hO, hb⟩
  case round =>
    clear hM hO hb
    obtain ⟨n, hn, rfl, hM, hO, hb⟩ := hrel
    by_cases hlt5 : n < 5
    · have hnI : (n : Int) < 5 := by omega
      have cb := hO.cell n
      rw [byteC_at ws ⟨n, hlt5⟩] at cb
      have cu := hM.cell (1 + n * 3 + 1)
      rw [mapC_wt _ ⟨n, hlt5⟩] at cu
      have fu := hM.free (1 + n * 3 + 1)
      have hM2 := hM.set (1 + n * 3 + 1) (.int .i64 (ws ⟨n, hlt5⟩ % 17 : Nat))
      rw [wts_step ws n hlt5] at hM2
      have hO2 := hO.set_other (a := ⟨w2.heap.size, 1 + n * 3 + 1, none⟩) (by show w.heap.size ≠ w2.heap.size; omega) (.int .i64 (ws ⟨n, hlt5⟩ % 17 : Nat))
      have hb2 := hb.setCell (p := ⟨w2.heap.size, 1 + n * 3 + 1, none⟩) (by show w.heap.size ≤ w2.heap.size; omega) (.int .i64 (ws ⟨n, hlt5⟩ % 17 : Nat))
      have hwn := hws ⟨n, hlt5⟩
      generalize (turnM firstM (wtsT ws) n).osd ⟨n, hlt5⟩ = OS at *
      generalize ws ⟨n, hlt5⟩ = V at *
      obtain ⟨v, hv⟩ : ∃ v, v = V % 17 := ⟨_, rfl⟩
      have hv17 : v < 17 := by omega
      rw [← hv] at hM2 hO2 hb2
      have hv' : Hid (V % 17 = v) := hv.symm
      clear hv
      go_wp2_with (refine wpList_val (.int .u8 (v : Int)) (by rfl) (run_rem_u8 _ _ _ _ rfl V 17 v rfl rfl hwn (by decide) hv'.out) ?_)
      go_roundw
      case rel => exact ⟨n + 1, by omega, by go_num, hM2, hO2, hb2⟩
      case measure => simp [intOf]; omega
    · have e5 : n = 5 := by omega
      subst e5
      rw [show ((5 : Nat) : Int) = 5 from rfl]
      have hI : isM (turnM firstM (wtsT ws) 5) = true := turnM_is ⟨by decide, by decide⟩ (wtsT_ok ws)
      have hMok := turnM_ok firstM_ok (wtsT_ok ws)
      generalize turnM firstM (wtsT ws) 5 = M at *
      obtain ⟨k, hk⟩ : ∃ k, k = o % 5 := ⟨_, rfl⟩
      have hk5 : k < 5 := by omega
      have hkI : (k : Int) < 5 := by omega
      have hk' : Hid (o % 5 = k) := hk.symm
      clear hk hO
      obtain ⟨W5, hW5⟩ : ∃ W, W = wr := ⟨_, rfl⟩
      subst hW5
      have hltM5 := hM.lt
      have hszb := hb.size
      go_wp2_with (first
        | (refine wpList_val (.int .u8 (k : Int)) (by rfl) (run_rem_u8 _ _ _ _ rfl o 5 k rfl rfl ho (by decide) hk'.out) ?_)
        | (refine load_map M (by rfl) _ rfl w2.heap.size rfl ?hg ?_; (case hg => exact hM))
        | (refine alloc_map (by rfl) rfl ?_)
        | (refine store_map M zeroM (by rfl) _ _ rfl _ rfl rfl ?hg ?_; (case hg => exact Has.new _ _ _); have hU := (Has.new W5 28 (mapC zeroM)).row (mapC M); have hbb := below_setRow ((Below.refl W5.heap.size W5).alloc (Nat.le_refl _) (.cells (mapC zeroM) 28)) (Nat.le_refl _) (mapC M); replace hM := hM.later hbb; replace hb := hb.trans (hbb.mono hb.size); clear hbb; generalize (W5.alloc (.cells (mapC zeroM) 28)).setRow W5.heap.size (mapC M) = w6 at *; have cU := hU.cell (1 + k * 3 + 1); rw [mapC_wt _ ⟨k, hk5⟩] at cU; have fU := hU.free (1 + k * 3 + 1); generalize (M.osd ⟨k, hk5⟩).wt = WT at cU))
      have hU2 := hU.set (1 + k * 3 + 1) (.int .i64 16)
      rw [mapC_setWt _ ⟨k, hk5⟩] at hU2
      have hM2 := hM.set_other (a := ⟨W5.heap.size, 1 + k * 3 + 1, none⟩) (by show w2.heap.size ≠ W5.heap.size; omega) (.int .i64 16)
      have hb2 := hb.setCell (p := ⟨W5.heap.size, 1 + k * 3 + 1, none⟩) (by show w.heap.size ≤ W5.heap.size; omega) (.int .i64 16)
      clear hU hM hb cU fU
      generalize w6.setCell ⟨W5.heap.size, 1 + k * 3 + 1, none⟩ (.int .i64 16) = w7 at *
      have hUok : MapOk (heavyM M ⟨k, hk5⟩) := ok_put hMok ⟨by show _ ≤ (16 : Int); omega, by show (16 : Int) ≤ _; omega⟩ (hMok.host _)
      have hfst := fun g hg => heavy_first (m := M) (g := g) hI hg hk5
      have hU2 : Has w7 W5.heap.size 28 (mapC (heavyM M ⟨k, hk5⟩)) := hU2
      generalize heavyM M ⟨k, hk5⟩ = U at *
      have keep : ∀ W W' : World, (Has W w2.heap.size 28 (mapC M) ∧ Has W W5.heap.size 28 (mapC U) ∧ Below w.heap.size w W) → Below W.heap.size W W' → (Has W' w2.heap.size 28 (mapC M) ∧ Has W' W5.heap.size 28 (mapC U) ∧ Below w.heap.size w W') :=
        fun W W' h hq => ⟨h.1.later hq, h.2.1.later hq, h.2.2.trans (hq.mono h.2.2.size)⟩
      have keepD : ∀ (W : World) (k : Nat), (Has W w2.heap.size 28 (mapC M) ∧ Has W W5.heap.size 28 (mapC U) ∧ Below w.heap.size w W) → (Has (W.drewN k) w2.heap.size 28 (mapC M) ∧ Has (W.drewN k) W5.heap.size 28 (mapC U) ∧ Below w.heap.size w (W.drewN k)) :=
        fun W k h => ⟨h.1.drewN k, h.2.1.drewN k, ⟨h.2.2.os, h.2.2.tape, h.2.2.output, h.2.2.size, h.2.2.block⟩⟩
      go_loopw [9, 10] (fun v i wr => ∃ g : Nat, g ≤ 4 ∧ i = .int .u8 g ∧ v = .int .i64 (movedTo M U g : Nat) ∧ Has wr w2.heap.size 28 (mapC M) ∧ Has wr W5.heap.size 28 (mapC U) ∧ Below w.heap.size w wr) (fun _ i _ => (4 - intOf i).toNat)
      case atStart => exact ⟨0, by decide, rfl, rfl, hM2, hU2, hb2⟩
      case round =>
        clear hM2 hU2 hb2
        obtain ⟨g, hg, rfl, rfl, hS⟩ := hrel
        have hml := moved_le M U g
        by_cases hlt4 : g < 4
        · have hgI : (g : Int) < 4 := by omega
          have hpm := fun w => S.pick M g w hMok (by omega)
          have hpU := fun w => S.pick U g w hUok (by omega)
          have hmy : Hid _ := @moved_yes M U g
          have hmn : Hid _ := @moved_no M U g
          obtain ⟨y, l', hB, hcase⟩ := hfst g hlt4
          rw [hB] at hpU hmy hmn
          generalize movedTo M U g = MV at *
          generalize pickM M g = A at *
          clear hB
          go_wp2
          replace hS := keepD _ 1 hS
          refine wp_region_plan (fun W => Has W w2.heap.size 28 (mapC M) ∧ Has W W5.heap.size 28 (mapC U) ∧ Below w.heap.size w W) (Plan.of [(0, true), (1, true), (3, true), (4, true), (2, false), (5, false), (6, true), (7, true)] .done) (by kernel_rfl) (by kernel_rfl) (by kernel_rfl) (by kernel_rfl) hS ?_
          refine plan_take _ _ rfl (yields_map M (by rfl) _ rfl (w2.heap.size) rfl (fun _ h => h.1)) ?_
          try simp only [Act.put, List.setIfInBounds_toArray, List.set_cons_zero, List.set_cons_succ]
          first
            | (refine plan_pass _ rfl (by rfl) ?_)
            | (refine plan_take _ _ rfl (.inl ⟨by rfl, fun W hS => by clear hS; go_simp; try with_reducible rfl⟩) ?_)
          try simp only [Act.put, List.setIfInBounds_toArray, List.set_cons_zero, List.set_cons_succ]
          refine plan_take _ _ rfl (yields_map U (by rfl) _ rfl (W5.heap.size) rfl (fun _ h => h.2.1)) ?_
          try simp only [Act.put, List.setIfInBounds_toArray, List.set_cons_zero, List.set_cons_succ]
          first
            | (refine plan_pass _ rfl (by rfl) ?_)
            | (refine plan_take _ _ rfl (.inl ⟨by rfl, fun W hS => by clear hS; go_simp; try with_reducible rfl⟩) ?_)
          try simp only [Act.put, List.setIfInBounds_toArray, List.set_cons_zero, List.set_cons_succ]
          refine plan_run _ rfl (fun K hK => ?_)
          go_simp
          refine (hpm _).mono ?_
          rintro e w8 ⟨ao, c, rfl, hIA, hq⟩
          replace hS := keep _ _ hS hq
          refine hK.out _ _ hS ?_
          clear hK K hq
          refine plan_run _ rfl (fun K hK => ?_)
          go_simp
          refine (hpU _).mono ?_
          rintro e w9 ⟨bo, d, rfl, hIB, hq⟩
          replace hS := keep _ _ hS hq
          replace hIA := hIA.later hq
          refine hK.out _ _ hS ?_
          clear hK K hq
          iterate 2
            first
              | (refine plan_pass _ rfl (by rfl) ?_)
              | (refine plan_take _ _ rfl (.inl ⟨by rfl, fun W hS => by clear hS; go_simp; try with_reducible rfl⟩) ?_)
            try simp only [Act.put, List.setIfInBounds_toArray, List.set_cons_zero, List.set_cons_succ]
          refine plan_done ?_
          have hAc := hIA.cap
          have hAl := hIA.le
          have hBc := hIB.cap
          have hBl := hIB.le
          have hl1 : (y :: l').length = l'.length + 1 := rfl
          rw [hl1] at hBl
          rw [hl1]
          clear hpm hpU
          cases bo with
          | none => have h1 := hIB.nil rfl; omega
          | some bd =>
          have cy := ix_top hIB
          rcases hcase with hA | ⟨x, l, hA, hxy⟩
          · subst hA
            go_wp2
            replace hS := keepD _ 1 hS
            have hS2 : (w9.drew.cell? bd = some (.int .i64 y)) := cy
            refine wp_region_plan (fun W => W.cell? bd = some (.int .i64 y)) (Plan.of [(0, true), (1, false), (2, true), (3, true), (4, true), (5, false), (6, true), (7, true), (8, true), (9, true), (10, true), (11, true), (12, true), (13, true), (14, true), (15, true), (16, true), (17, true), (18, true), (19, true), (20, true), (21, true), (22, true), (23, true)] .done) (by kernel_rfl) (by kernel_rfl) (by kernel_rfl) (by kernel_rfl) hS2 ?_
            iterate 1
              first
                | (refine plan_pass _ rfl (by rfl) ?_)
                | (refine plan_take _ _ rfl (.inl ⟨by rfl, fun W hS => by have z1 := hS; go_simp; try with_reducible rfl⟩) ?_)
              try simp only [Act.put, List.setIfInBounds_toArray, List.set_cons_zero, List.set_cons_succ]
            refine plan_run _ rfl (fun K hK => ?_)
            go_simp
            refine hK.out _ _ hS2 ?_
            clear hK K
            iterate 3
              first
                | (refine plan_pass _ rfl (by rfl) ?_)
                | (refine plan_take _ _ rfl (.inl ⟨by rfl, fun W hS => by have z1 := hS; go_simp; try with_reducible rfl⟩) ?_)
              try simp only [Act.put, List.setIfInBounds_toArray, List.set_cons_zero, List.set_cons_succ]
            refine plan_run _ rfl (fun K hK => ?_)
            go_simp
            refine hK.out _ _ hS2 ?_
            clear hK K
            iterate 18
              first
                | (refine plan_pass _ rfl (by rfl) ?_)
                | (refine plan_take _ _ rfl (.inl ⟨by rfl, fun W hS => by have z1 := hS; go_simp; try with_reducible rfl⟩) ?_)
              try simp only [Act.put, List.setIfInBounds_toArray, List.set_cons_zero, List.set_cons_succ]
            refine plan_done ?_
            clear hS2 cy
            replace hIA := hIA.drewN 1
            replace hIB := hIB.drewN 1
            replace hS : (Has w9.drew w2.heap.size 28 (mapC M) ∧ Has w9.drew W5.heap.size 28 (mapC U) ∧ Below w.heap.size w w9.drew) := hS
            replace hIB : Ix w9.drew (some bd) d (y :: l') := hIB
            replace hIA : Ix w9.drew ao c [] := hIA
            generalize w9.drew = w10 at *
            have hint := ints_any ao (some bd) c d [] (y :: l') w10 hIA hIB
            simp only [List.length_cons, List.length_nil] at hint
            by_cases he : [] = y :: l'
            · have hstep : Hid _ := hmy.out he
              rw [decide_eq_true he] at hint
              clear he hmy hmn
              go_wp2_with fail
              refine hint.mono ?_
              rintro e w11 ⟨rfl, nq, rfl⟩
              replace hS := keepD _ nq hS
              clear hint
              go_wp2
              go_roundw
              case rel => exact ⟨g + 1, by omega, by go_num, by first | (rw [hstep.out]; done) | (rw [hstep.out]; go_num), hS⟩
              case measure => simp [intOf]; omega
            · have hstep : Hid _ := hmn.out he
              rw [decide_eq_false he] at hint
              clear he hmy hmn
              go_wp2_with fail
              refine hint.mono ?_
              rintro e w11 ⟨rfl, nq, rfl⟩
              replace hS := keepD _ nq hS
              clear hint
              go_wp2
              go_roundw
              case rel => exact ⟨g + 1, by omega, by go_num, by first | (rw [hstep.out]; done) | (rw [hstep.out]; go_num), hS⟩
              case measure => simp [intOf]; omega
          · subst hA
            have hl2 : (x :: l).length = l.length + 1 := rfl
            rw [hl2] at hAl
            rw [hl2]
            cases ao with
            | none => have h1 := hIA.nil rfl; omega
            | some ad =>
            have cx := ix_top hIA
            rcases hxy with hxy | ⟨hxy, hyk⟩
            · subst hxy
              go_wp2
              replace hS := keepD _ 1 hS
              have hS2 : (w9.drew.cell? bd = some (.int .i64 y) ∧ w9.drew.cell? ad = some (.int .i64 y)) := ⟨cy, cx⟩
              refine wp_region_plan (fun W => W.cell? bd = some (.int .i64 y) ∧ W.cell? ad = some (.int .i64 y)) (Plan.of [(0, true), (1, false), (2, true), (3, true), (4, true), (5, false), (6, true), (7, true), (8, true), (9, true), (10, true), (11, true), (12, true), (13, true), (14, true), (15, true), (16, true), (17, true), (18, true), (19, true), (20, true), (21, true), (22, true), (23, true)] .done) (by kernel_rfl) (by kernel_rfl) (by kernel_rfl) (by kernel_rfl) hS2 ?_
              iterate 1
                first
                  | (refine plan_pass _ rfl (by rfl) ?_)
                  | (refine plan_take _ _ rfl (.inl ⟨by rfl, fun W hS => by obtain ⟨z1, z2⟩ := hS; go_simp; try with_reducible rfl⟩) ?_)
                try simp only [Act.put, List.setIfInBounds_toArray, List.set_cons_zero, List.set_cons_succ]
              refine plan_run _ rfl (fun K hK => ?_)
              go_simp
              refine hK.out _ _ hS2 ?_
              clear hK K
              iterate 3
                first
                  | (refine plan_pass _ rfl (by rfl) ?_)
                  | (refine plan_take _ _ rfl (.inl ⟨by rfl, fun W hS => by obtain ⟨z1, z2⟩ := hS; go_simp; try with_reducible rfl⟩) ?_)
                try simp only [Act.put, List.setIfInBounds_toArray, List.set_cons_zero, List.set_cons_succ]
              refine plan_run _ rfl (fun K hK => ?_)
              go_simp
              refine hK.out _ _ hS2 ?_
              clear hK K
              iterate 18
                first
                  | (refine plan_pass _ rfl (by rfl) ?_)
                  | (refine plan_take _ _ rfl (.inl ⟨by rfl, fun W hS => by obtain ⟨z1, z2⟩ := hS; go_simp; try with_reducible rfl⟩) ?_)
                try simp only [Act.put, List.setIfInBounds_toArray, List.set_cons_zero, List.set_cons_succ]
              refine plan_done ?_
              clear hS2 cy
              replace hIA := hIA.drewN 1
              replace hIB := hIB.drewN 1
              replace hS : (Has w9.drew w2.heap.size 28 (mapC M) ∧ Has w9.drew W5.heap.size 28 (mapC U) ∧ Below w.heap.size w w9.drew) := hS
              replace hIB : Ix w9.drew (some bd) d (y :: l') := hIB
              replace hIA : Ix w9.drew (some ad) c (y :: l) := hIA
              generalize w9.drew = w10 at *
              have hint := ints_any (some ad) (some bd) c d (y :: l) (y :: l') w10 hIA hIB
              simp only [List.length_cons, List.length_nil] at hint
              by_cases he : (y :: l) = y :: l'
              · have hstep : Hid _ := hmy.out he
                rw [decide_eq_true he] at hint
                clear he hmy hmn
                go_wp2_with fail
                refine hint.mono ?_
                rintro e w11 ⟨rfl, nq, rfl⟩
                replace hS := keepD _ nq hS
                clear hint
                go_wp2
                go_roundw
                case rel => exact ⟨g + 1, by omega, by go_num, by first | (rw [hstep.out]; done) | (rw [hstep.out]; go_num), hS⟩
                case measure => simp [intOf]; omega
              · have hstep : Hid _ := hmn.out he
                rw [decide_eq_false he] at hint
                clear he hmy hmn
                go_wp2_with fail
                refine hint.mono ?_
                rintro e w11 ⟨rfl, nq, rfl⟩
                replace hS := keepD _ nq hS
                clear hint
                go_wp2
                go_roundw
                case rel => exact ⟨g + 1, by omega, by go_num, by first | (rw [hstep.out]; done) | (rw [hstep.out]; go_num), hS⟩
                case measure => simp [intOf]; omega
            · have m1 : (y == x) = false := by rw [beq_eq_false_iff_ne]; exact hxy
              have m1' : (y != x) = true := by simp [hxy]
              have m2 : (y == (k : Int)) = true := by rw [beq_iff_eq]; exact hyk
              have m2' : (y != (k : Int)) = false := by simp [hyk]
              clear hxy hyk
              go_wp2
              replace hS := keepD _ 1 hS
              have hS2 : (w9.drew.cell? bd = some (.int .i64 y) ∧ w9.drew.cell? ad = some (.int .i64 x)) := ⟨cy, cx⟩
              refine wp_region_plan (fun W => W.cell? bd = some (.int .i64 y) ∧ W.cell? ad = some (.int .i64 x)) (Plan.of [(0, true), (1, false), (2, true), (3, true), (4, true), (5, false), (6, true), (7, true), (8, true), (9, true), (10, true), (11, true), (12, true), (13, true), (14, true), (15, true), (16, true), (17, true), (18, true), (19, true), (20, true), (21, true), (22, true), (23, true)] .done) (by kernel_rfl) (by kernel_rfl) (by kernel_rfl) (by kernel_rfl) hS2 ?_
              iterate 1
                first
                  | (refine plan_pass _ rfl (by rfl) ?_)
                  | (refine plan_take _ _ rfl (.inl ⟨by rfl, fun W hS => by obtain ⟨z1, z2⟩ := hS; go_simp; try with_reducible rfl⟩) ?_)
                try simp only [Act.put, List.setIfInBounds_toArray, List.set_cons_zero, List.set_cons_succ]
              refine plan_run _ rfl (fun K hK => ?_)
              go_simp
              refine hK.out _ _ hS2 ?_
              clear hK K
              iterate 3
                first
                  | (refine plan_pass _ rfl (by rfl) ?_)
                  | (refine plan_take _ _ rfl (.inl ⟨by rfl, fun W hS => by obtain ⟨z1, z2⟩ := hS; go_simp; try with_reducible rfl⟩) ?_)
                try simp only [Act.put, List.setIfInBounds_toArray, List.set_cons_zero, List.set_cons_succ]
              refine plan_run _ rfl (fun K hK => ?_)
              go_simp
              refine hK.out _ _ hS2 ?_
              clear hK K
              iterate 18
                first
                  | (refine plan_pass _ rfl (by rfl) ?_)
                  | (refine plan_take _ _ rfl (.inl ⟨by rfl, fun W hS => by obtain ⟨z1, z2⟩ := hS; go_simp; try with_reducible rfl⟩) ?_)
                try simp only [Act.put, List.setIfInBounds_toArray, List.set_cons_zero, List.set_cons_succ]
              refine plan_done ?_
              clear hS2 cy
              replace hIA := hIA.drewN 1
              replace hIB := hIB.drewN 1
              replace hS : (Has w9.drew w2.heap.size 28 (mapC M) ∧ Has w9.drew W5.heap.size 28 (mapC U) ∧ Below w.heap.size w w9.drew) := hS
              replace hIB : Ix w9.drew (some bd) d (y :: l') := hIB
              replace hIA : Ix w9.drew (some ad) c (x :: l) := hIA
              generalize w9.drew = w10 at *
              have hint := ints_any (some ad) (some bd) c d (x :: l) (y :: l') w10 hIA hIB
              simp only [List.length_cons, List.length_nil] at hint
              by_cases he : (x :: l) = y :: l'
              · have hstep : Hid _ := hmy.out he
                rw [decide_eq_true he] at hint
                clear he hmy hmn
                go_wp2_with fail
                refine hint.mono ?_
                rintro e w11 ⟨rfl, nq, rfl⟩
                replace hS := keepD _ nq hS
                clear hint
                go_wp2
                go_roundw
                case rel => exact ⟨g + 1, by omega, by go_num, by first | (rw [hstep.out]; done) | (rw [hstep.out]; go_num), hS⟩
                case measure => simp [intOf]; omega
              · have hstep : Hid _ := hmn.out he
                rw [decide_eq_false he] at hint
                clear he hmy hmn
                go_wp2_with fail
                refine hint.mono ?_
                rintro e w11 ⟨rfl, nq, rfl⟩
                replace hS := keepD _ nq hS
                clear hint
                go_wp2
                go_roundw
                case rel => exact ⟨g + 1, by omega, by go_num, by first | (rw [hstep.out]; done) | (rw [hstep.out]; go_num), hS⟩
                case measure => simp [intOf]; omega
        · have e4 : g = 4 := by omega
          subst e4
          rw [show ((4 : Nat) : Int) = 4 from rfl]
          have hmov := fun w => S.moved M U w hMok hUok
          have hmov' := fun w => S.moved U M w hUok hMok
          rw [moved_turned U M] at hmov'
          generalize movedTo M U 4 = MV at *
          go_wp2_with (first
            | (refine load_map M (by first | rfl | simp [Region.wanted, yielded]) _ rfl w2.heap.size rfl ?hg ?_; (case hg => exact hS.1))
            | (refine load_map U (by first | rfl | simp [Region.wanted, yielded]) _ rfl W5.heap.size rfl ?hg ?_; (case hg => exact hS.2.1)))
          refine (hmov _).mono ?_
          rintro e w10 ⟨rfl, hq⟩
          replace hS := keep _ _ hS hq
          clear hq hmov
          go_wp2_with (first
            | (refine load_map M (by first | rfl | simp [Region.wanted, yielded]) _ rfl w2.heap.size rfl ?hg ?_; (case hg => exact hS.1))
            | (refine load_map U (by first | rfl | simp [Region.wanted, yielded]) _ rfl W5.heap.size rfl ?hg ?_; (case hg => exact hS.2.1)))
          refine (hmov' _).mono ?_
          rintro e w11 ⟨rfl, hq⟩
          replace hS := keep _ _ hS hq
          clear hq hmov'
          go_wp2
          go_ret
          exact ⟨rfl, hS.2.2⟩
end Go.Proofs.Ytmobdnaejfldnab
