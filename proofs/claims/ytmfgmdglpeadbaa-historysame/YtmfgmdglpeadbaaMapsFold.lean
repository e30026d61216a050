/- The contract of maps.Fold. -/
import Derived.Test.YtmfgmdglpeadbaaPackMaps
import Derived.Test.YtmfgmdglpeadbaaPackTools
namespace Go.Proofs.Ytmfgmdglpeadbaa
set_option linter.unusedSimpArgs false
set_option linter.unusedVariables false
open Go.RowKit

theorem firstM_ok : MapOk firstM := ⟨by decide, fun i => ⟨by show _ ≤ (8 : Int); decide, by show (8 : Int) ≤ _; decide⟩, fun i => by show i.val % 4 < 256; omega⟩
theorem zeroM_ok : MapOk zeroM := ⟨by decide, fun i => ⟨by show _ ≤ (0 : Int); decide, by show (0 : Int) ≤ _; decide⟩, fun i => by show 0 < 256; decide⟩

theorem sl_inc {w : World} {ad : Addr} {c : Nat} {xs : List IncV} (h : Sl w (some ad) c 3 (xs.map fun x => (incC x).toList)) (i : Nat) (hi : i < xs.length) :
    w.cell? (ad.add (i * 3)) = some (.int .u8 xs[i].kind) ∧ w.cell? (ad.add (i * 3 + 1)) = some (.int .u8 xs[i].osd) ∧ w.cell? (ad.add (i * 3 + 2)) = some (.int .i64 xs[i].n) := by
  have h0 := h.at' ad rfl i (by rw [List.length_map]; exact hi) 0 (by decide)
  have h1 := h.at' ad rfl i (by rw [List.length_map]; exact hi) 1 (by decide)
  have h2 := h.at' ad rfl i (by rw [List.length_map]; exact hi) 2 (by decide)
  rw [List.getElem_map] at h0 h1 h2
  exact ⟨h0, h1, h2⟩

theorem sl_at {w : World} {ad : Addr} {c : Nat} {xs : List IncV} (h : Sl w (some ad) c 3 (xs.map fun x => (incC x).toList)) (i : Nat) (hi : i < xs.length) :
    ∀ j v, (incC xs[i]).toList[j]? = some v → w.cell? ((ad.add (i * 3)).add j) = some v := by
  intro j v hj
  have hj3 : j < 3 := (List.getElem?_eq_some_iff.1 hj).1
  have h0 := h.at' ad rfl i (by rw [List.length_map]; exact hi) j hj3
  rw [List.getElem_map, hj] at h0
  rw [Go.Deep.add_add]
  exact h0

theorem load_inc_at {ops : Array Oper} {rest : List Oper} {o : Oper} {a : Act} {w : World} {Q : Exit → Act → World → Prop} (y : IncV) (hw : Region.wanted o (yielded ops a.tmps) = true) (x : Operand) (ho : o.op = .load 32 x) (A : Addr) (hx : a.eval x = .pointer (some A))
    (hc : ∀ j v, (incC y).toList[j]? = some v → w.cell? (A.add j) = some v) (h : wpList Try.prog ops Q rest (a.put o.dst (.agg (incC y))) w) : wpList Try.prog ops Q (o :: rest) a w :=
  wpList_load_any hw 32 x ho A hx (incC y).toList _ hc Try.underlying32 rfl (inc_size y) h

theorem foldFrom_drop {b : MapV} {xs : List IncV} {n : Nat} (hlt : n < xs.length) : foldFrom b (xs.drop n) = if okA b xs[n] then foldFrom (nextM b xs[n]) (xs.drop (n + 1)) else (zeroM, false) := by
  rw [List.drop_eq_getElem_cons hlt]
  rfl

theorem okA_epoch {m : MapV} {x : IncV} (h : okA m x = true) : m.epoch < 60 := ((okA_is m x).1 h).2.2

set_option maxRecDepth 100000 in
set_option maxHeartbeats 1000000 in
theorem fold_any (ao : Option Addr) (c : Nat) (xs : List IncV) (w : World) (h : Sl w ao c 3 (xs.map fun x => (incC x).toList)) (hx : ∀ x ∈ xs, IncOk x) (hlen : xs.length ≤ 1000000) :
    Calls Try.prog 24 #[.slice ao xs.length c] w fun e w' => e = .returned (.tuple #[.agg (mapC (foldM xs).1), .int .i64 (errI (foldM xs).2)]) ∧ Below w.heap.size w w' := by
  have hle := h.le
  rw [List.length_map] at hle
  have hcap := h.cap
  have hR0 := Has.new w 44 (mapC zeroM)
  have hb0 := (Below.refl w.heap.size w).alloc (Nat.le_refl _) (.cells (mapC zeroM) 44)
  have hS0 := h.later hb0
  go_enter Try.func24, Try.ntmps24
  go_wp2_with (first
    | (refine store_map _ zeroM (by rfl) _ _ rfl _ rfl rfl (Has.new _ _ _) ?_)
    | (go_at_call 28; refine (first_any _).mono ?_; rintro e w1 ⟨rfl, hb1⟩; replace hR0 := hR0.later hb1; replace hS0 := hS0.later hb1; replace hb0 := hb0.trans (hb1.mono hb0.size); clear hb1)
    | (refine alloc_map (by rfl) rfl ?_))
  have hlt0 := hR0.lt
  have hw1 := hb0.size
  have hR := (hR0.alloc (.cells (mapC zeroM) 44)).row_other (k := w1.heap.size) (by omega) (mapC firstM)
  have hA := (Has.new w1 44 (mapC zeroM)).row (mapC firstM)
  have hbb := below_setRow ((Below.refl w1.heap.size w1).alloc (Nat.le_refl _) (.cells (mapC zeroM) 44)) (Nat.le_refl _) (mapC firstM)
  have hS := hS0.later hbb
  have hb := hb0.trans (hbb.mono hb0.size)
  clear hbb hS0 hb0 hR0
  generalize (w1.alloc (.cells (mapC zeroM) 44)).setRow w1.heap.size (mapC firstM) = w2 at *
  go_loopw [12] (fun i wr => ∃ (n : Nat) (b : MapV), n ≤ xs.length ∧ i = .int .i64 n ∧ MapOk b ∧ foldFrom b (xs.drop n) = foldM xs ∧ Has wr w1.heap.size 44 (mapC b) ∧ Has wr w.heap.size 44 (mapC zeroM) ∧ Sl wr ao c 3 (xs.map fun x => (incC x).toList) ∧ Below w.heap.size w wr) (fun i _ => xs.length - (intOf i).toNat)
  case atStart => exact ⟨0, firstM, Nat.zero_le _, rfl, firstM_ok, rfl, hA, hR, hS, hb⟩
  case round =>
    clear hA hR hS hb
    obtain ⟨n, b, hn, rfl, hbo, hfo, hA, hR, hS, hb⟩ := hrel
    by_cases hlt : n < xs.length
    · cases ao with
      | none => have := hS.nil rfl; omega
      | some ad =>
        have hci := sl_at hS n hlt
        have hxn := hx xs[n] (List.getElem_mem hlt)
        have i1 : (n : Int) < (xs.length : Int) := by omega
        have hfd : Hid _ := foldFrom_drop (b := b) hlt
        have hfo' : Hid _ := hfo
        clear hfo
        generalize xs[n] = x at *
        have hX := (Has.new wr 32 (incC ⟨0, 0, 0⟩)).row (incC x)
        have hlt1 := hA.lt
        have hlt2 := hR.lt
        have hA1 := (hA.alloc (.cells (incC ⟨0, 0, 0⟩) 32)).row_other (k := wr.heap.size) (by omega) (incC x)
        have hR1 := (hR.alloc (.cells (incC ⟨0, 0, 0⟩) 32)).row_other (k := wr.heap.size) (by omega) (incC x)
        have hbb := below_setRow ((Below.refl wr.heap.size wr).alloc (Nat.le_refl _) (.cells (incC ⟨0, 0, 0⟩) 32)) (Nat.le_refl _) (incC x)
        have hS1 := hS.later hbb
        have hb1 := hb.trans (hbb.mono hb.size)
        clear hbb
        go_wp2_with (first
          | (refine load_inc_at x (by rfl) _ rfl _ rfl hci ?_)
          | (refine alloc_inc (by rfl) rfl ?_)
          | (refine store_inc _ _ (by rfl) _ _ rfl _ rfl rfl (Has.new _ _ _) ?_; generalize (wr.alloc (.cells (incC ⟨0, 0, 0⟩) 32)).setRow wr.heap.size (incC x) = w3 at *)
          | (refine load_map _ (by rfl) _ rfl _ rfl hA1 ?_)
          | (refine load_inc _ (by rfl) _ rfl _ rfl hX ?_))
        refine (apply_any b x _ hbo hxn).mono ?_
        rintro e w4 ⟨rfl, hb4⟩
        replace hA1 := hA1.later hb4
        replace hR1 := hR1.later hb4
        replace hS1 := hS1.later hb4
        replace hb1 := hb1.trans (hb4.mono hb1.size)
        clear hb4 hA hR hS hb hlt1 hlt2
        have hlt1 := hA1.lt
        have hlt2 := hR1.lt
        have hY := (Has.new w4 44 (mapC zeroM)).row (mapC (applyM b x))
        have hA2 := (hA1.alloc (.cells (mapC zeroM) 44)).row_other (k := w4.heap.size) (by omega) (mapC (applyM b x))
        have hR2 := (hR1.alloc (.cells (mapC zeroM) 44)).row_other (k := w4.heap.size) (by omega) (mapC (applyM b x))
        have hbb := below_setRow ((Below.refl w4.heap.size w4).alloc (Nat.le_refl _) (.cells (mapC zeroM) 44)) (Nat.le_refl _) (mapC (applyM b x))
        have hS2 := hS1.later hbb
        have hb2 := hb1.trans (hbb.mono hb1.size)
        clear hbb hA1 hR1 hS1 hb1
        cases hok : okA b x with
        | false =>
          have e1 : (foldM xs).1 = zeroM := by rw [← hfo'.out, hfd.out, hok]; rfl
          have e2 : (foldM xs).2 = false := by rw [← hfo'.out, hfd.out, hok]; rfl
          have hee : errI false = 40 := rfl
          rw [hee]
          go_wp2_with (first
            | (refine alloc_map (by rfl) rfl ?_)
            | (refine build_map0 (by rfl) rfl ?_)
            | (refine store_map _ zeroM (by rfl) _ _ rfl _ rfl rfl (Has.new _ _ _) ?_; generalize (w4.alloc (.cells (mapC zeroM) 44)).setRow w4.heap.size (mapC (applyM b x)) = w5 at *)
            | (refine store_map _ zeroM (by rfl) _ _ rfl _ rfl rfl hR2 ?_))
          exact ret_map_tmp zeroM rfl _ rfl (hR2.row _) rfl ⟨by rw [e1, e2]; rfl, below_setRow hb2 (Nat.le_refl _) _⟩
        | true =>
          have hee : errI true = 0 := rfl
          rw [hee]
          have hap : applyM b x = nextM b x := by unfold applyM; rw [hok]; rfl
          rw [hap] at hY hA2 hR2 hS2 hb2
          rw [hap]
          have hep := okA_epoch hok
          have hno := next_ok hbo hxn hep
          have hfn : Hid (foldFrom (nextM b x) (xs.drop (n + 1)) = foldM xs) := by
            show _ = _
            rw [← hfo'.out, hfd.out, hok]
            rfl
          clear hap hep hok
          go_wp2_with (first
            | (refine alloc_map (by rfl) rfl ?_)
            | (refine store_map _ zeroM (by rfl) _ _ rfl _ rfl rfl (Has.new _ _ _) ?_; generalize (w4.alloc (.cells (mapC zeroM) 44)).setRow w4.heap.size (mapC (nextM b x)) = w5 at *)
            | (refine load_map _ (by rfl) _ rfl _ rfl hY ?_)
            | (refine store_map _ b (by rfl) _ _ rfl _ rfl rfl hA2 ?_))
          go_roundw
          case rel =>
            have hlt3 := hA2.lt
            refine ⟨n + 1, nextM b x, by omega, by go_num, hno, hfn.out, hA2.row _, hR2.row_other (by omega) _, h.later (below_setRow hb2 hw1 _), below_setRow hb2 hw1 _⟩
          case measure => simp [intOf]; omega
    · have e5 : n = xs.length := by omega
      subst e5
      rw [List.drop_length] at hfo
      have e1 : (foldM xs).1 = b := by rw [← hfo]; rfl
      have e2 : (foldM xs).2 = true := by rw [← hfo]; rfl
      go_wp2_with (first
        | (refine load_map _ (by rfl) _ rfl _ rfl hA ?_)
        | (refine store_map _ zeroM (by rfl) _ _ rfl _ rfl rfl hR ?_))
      exact ret_map_tmp _ rfl _ rfl (hR.row _) rfl ⟨by rw [e1, e2]; rfl, below_setRow hb (Nat.le_refl _) _⟩
end Go.Proofs.Ytmfgmdglpeadbaa
