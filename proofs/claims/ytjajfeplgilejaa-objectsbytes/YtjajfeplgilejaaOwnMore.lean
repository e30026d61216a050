/- Bytes of one's own: appended to, cut, copied into. -/
import Derived.Test.YtjajfeplgilejaaOwnBytes
namespace Go.Proofs.Ytjajfeplgilejaa
set_option linter.unusedSimpArgs false
set_option linter.unusedVariables false
set_option maxRecDepth 100000
open Go.RowKit

theorem by_info : ∃ i, Try.prog.info? 5 = some i ∧ i.zero = some (.int .u8 0) ∧ i.size = 1 ∧ i.bytes = 1 := by
  have h : (Try.prog.info? 5).map (fun i => (i.zero, i.size, i.bytes)) = some (some (.int .u8 0), 1, 1) := by kernel_rfl
  cases hi : Try.prog.info? 5 with
  | none => rw [hi] at h; cases h
  | some i =>
    rw [hi] at h
    simp only [Option.map_some, Option.some.injEq, Prod.mk.injEq] at h
    exact ⟨i, rfl, h.1, h.2.1, h.2.2⟩
theorem by_size : (Try.prog.info? 5).map (·.size) = some 1 := by kernel_rfl

/-- Bytes that lie somewhere, appended. -/
theorem OwnB.append {w : World} {B : Nat} {v : Value} {D : List UInt8} (h : OwnB w B v D) (ty : TypeId) (ad : Addr) (c : Nat) (s : List UInt8) (hs : ∀ j u, (byV s)[j]? = some u → w.cell? (ad.add j) = some u) (hl : D.length + s.length ≤ 1000) (hB : B ≤ w.heap.size) :
    ∃ v' w', (Builtin.append_ #[48, 48] ty #[v, .slice (some ad) s.length c]).run Try.prog w = .ok v' w' ∧ OwnB w' B v' (D ++ s) ∧ Kept B v w w' := by
  obtain ⟨i, hi, hz, hsz, hby⟩ := by_info
  obtain ⟨v', w', hr, ho, hg, _, _⟩ := run_append_own_at (P := Try.prog) w B 48 ty 5 i (.int .u8 0) 1 1 Try.underlying48 hi hz hsz hby rfl (by decide) v D.length (byV D) h ad s.length c (byV s) (by rw [byV_len, Nat.mul_one]) hs (byV_one s) (by unfold maxLen; omega) (by omega) hB
  refine ⟨v', w', hr, ?_, kept_grown hB h hg⟩
  unfold OwnB
  rw [List.length_append]
  have e : byV (D ++ s) = byV D ++ byV s := by unfold byV; rw [List.map_append]
  rw [e]
  exact ho

theorem append_nils (w : World) (ty : TypeId) : (Builtin.append_ #[48, 48] ty #[.slice none 0 0, .slice none 0 0]).run Try.prog w = .ok (.slice none 0 0) w := by kernel_rfl

theorem sized_byte (w : World) : (Go.sizeOf 5).run Try.prog w = .ok 1 w := Try.sizeOf5 w

/-- Cut at its head: the first p bytes of it. -/
theorem OwnB.head {w : World} {B : Nat} {v : Value} {D : List UInt8} (h : OwnB w B v D) (p : Nat) (hp : p ≤ D.length) :
    ∃ sv, (∀ W, (Instr.slice 48 v none (some (.int .u8 (p : Int))) none).run Try.prog W = .ok sv W) ∧ ((sv = .slice none 0 0 ∧ p = 0 ∧ D = []) ∨ ∃ ad c, sv = .slice (some ad) p c ∧ ∀ j u, (byV (D.take p))[j]? = some u → w.cell? (ad.add j) = some u) := by
  rcases h.cases with ⟨rfl, rfl⟩ | ⟨g, cap, rfl, hle, hm, hb, cur, hh, hs, hx⟩
  · obtain rfl : p = 0 := by simpa using hp
    exact ⟨.slice none 0 0, fun W => by kernel_rfl, .inl ⟨rfl, rfl, rfl⟩⟩
  · refine ⟨.slice (some ⟨g, 0, none⟩) p cap, fun W => ?_, .inr ⟨⟨g, 0, none⟩, cap, rfl, fun j u hj => ?_⟩⟩
    · rw [run_slice_h (P := Try.prog) W 48 (some ⟨g, 0, none⟩) D.length cap Try.underlying48 .u8 (p : Int) (by omega) (by omega)]
      show ((Go.sizeOf 5).run Try.prog W).andThen _ = _
      rw [sized_byte]
      show Result.ok (sliced (some ⟨g, 0, none⟩) 0 (p : Int).toNat cap 1) W = _
      rw [Int.toNat_natCast]
      unfold sliced
      simp [Addr.add]
    · have hj2 : j < p := by
        have := (List.getElem?_eq_some_iff.1 hj).1
        rw [byV_len, List.length_take] at this
        omega
      have hjD : j < D.length := by omega
      rw [Addr.add_mid, Nat.zero_add, row_cell hh hx j hjD, ← hj]
      unfold byV
      rw [List.getElem?_map, List.getElem?_take, if_pos hj2, List.getElem?_eq_getElem hjD]
      rfl

theorem run_copy_string {w : World} (ty : TypeId) (g o n cap : Nat) (s : List UInt8) (hn : s.length ≤ n) (hc : ∀ j, j < s.length → (w.cell? ⟨g, o + j, none⟩).isSome = true) (hf : ∀ j, j < s.length → w.frozen? ⟨g, o + j, none⟩ = false) :
    (Builtin.copy_ #[48, 9] ty #[.slice (some ⟨g, o, none⟩) n cap, .string (mkS s)]).run Try.prog w = .ok (goInt s.length) (w.setCells g o (byV s)) := by
  have hst := run_storeCells_cells (P := Try.prog) g o (byV s) 0 w (by intro j hj; rw [byV_len] at hj; simpa using hc j hj) (by intro j hj; rw [byV_len] at hj; simpa using hf j hj) (byV_one s)
  have hmin : Nat.min s.length n = s.length := Nat.min_eq_left hn
  have hex : ((mkS s).extract 0 s.length).data.map (fun b => Value.int .u8 (b.toNat : Int)) = (byV s).toArray := by
    have : (mkS s).extract 0 s.length = mkS s := by
      rw [mkS_take s s.length (Nat.le_refl _), List.take_length]
    rw [this]
    unfold mkS byV
    simp
  obtain ⟨i, hi, hz, hsz, hby⟩ := by_info
  simp only [Nat.add_zero] at hst
  simp [Builtin.copy_, run_underlying Try.underlying48, Builtin.lenOf, Builtin.firstCells, sizeOf, typeInfo, hi, hsz, mkS_size, hmin, hex, hst]
  have e2 : List.take s.length (List.map (fun b => Value.int .u8 (b.toNat : Int)) (mkS s).data.toList) = byV s := by
    unfold mkS byV
    rw [List.take_of_length_le (by simp)]
  rw [e2, hst]
  rfl

/-- Copied into, at a place. -/
theorem OwnB.copy {w : World} {B : Nat} {v : Value} {D : List UInt8} (h : OwnB w B v D) (ty : TypeId) (p : Nat) (s : List UInt8) (hp : p + s.length ≤ D.length) :
    ∃ sv w', (∀ W, (Instr.slice 48 v (some (.int .u8 (p : Int))) none none).run Try.prog W = .ok sv W) ∧ (∃ r, (Builtin.copy_ #[48, 9] ty #[sv, .string (mkS s)]).run Try.prog w = .ok r w') ∧ OwnB w' B v (D.take p ++ s ++ D.drop (p + s.length)) ∧ Kept B v w w' := by
  rcases h.cases with ⟨rfl, rfl⟩ | ⟨g, cap, rfl, hle, hm, hb, cur, hh, hs, hx⟩
  · have hp0 : p = 0 ∧ s = [] := by
      have : p + s.length ≤ 0 := hp
      exact ⟨by omega, List.length_eq_zero_iff.1 (by omega)⟩
    obtain ⟨rfl, rfl⟩ := hp0
    exact ⟨.slice none 0 0, w, fun W => by kernel_rfl, ⟨goInt 0, by kernel_rfl⟩, h, Kept.refl _ _ _⟩
  · have hsl : ∀ W, (Instr.slice 48 (.slice (some ⟨g, 0, none⟩) D.length cap) (some (.int .u8 (p : Int))) none none).run Try.prog W = .ok (sliced (some ⟨g, 0, none⟩) p D.length cap 1) W := fun W => by
      rw [run_slice_l (P := Try.prog) W 48 (some ⟨g, 0, none⟩) D.length cap Try.underlying48 .u8 (p : Int) (by omega) (by omega)]
      show ((Go.sizeOf 5).run Try.prog W).andThen _ = _
      rw [sized_byte]
      show Result.ok (sliced (some ⟨g, 0, none⟩) (p : Int).toNat D.length cap 1) W = _
      rw [Int.toNat_natCast]
    by_cases hs0 : s = []
    · subst hs0
      obtain ⟨q, hq⟩ : ∃ q, sliced (some ⟨g, 0, none⟩) p D.length cap 1 = .slice (some ⟨g, q, none⟩) (D.length - p) (cap - p) := by
        unfold sliced
        by_cases e : cap = p
        · exact ⟨0, by rw [if_pos e]⟩
        · exact ⟨p, by rw [if_neg e]; simp [Addr.add_mid]⟩
      rw [hq] at hsl
      refine ⟨_, w, hsl, ⟨goInt ([] : List UInt8).length, run_copy_string (w := w) ty g q (D.length - p) (cap - p) [] (Nat.zero_le _) (fun j hj => by cases hj) (fun j hj => by cases hj)⟩, ?_, Kept.refl _ _ _⟩
      have e : D.take p ++ [] ++ D.drop (p + ([] : List UInt8).length) = D := by simp
      rw [e]
      exact h
    · have hsp : 0 < s.length := List.length_pos_iff.2 hs0
      have hq : sliced (some ⟨g, 0, none⟩) p D.length cap 1 = .slice (some ⟨g, p, none⟩) (D.length - p) (cap - p) := by
        unfold sliced
        rw [if_neg (by omega)]
        simp [Addr.add_mid]
      rw [hq] at hsl
      have hcz : cur.size = cap := hs
      have hth := hh.there p s.length (by omega)
      have hrun := run_copy_string (w := w) ty g p (D.length - p) (cap - p) s (by omega) (fun j hj => (hth j hj).1) (fun j hj => (hth j hj).2)
      refine ⟨_, w.setCells g p (byV s), hsl, ⟨_, hrun⟩, ?_, ?_⟩
      · have hH := Has.cells (byV s) p hh
        have hL := writeA_list (byV s) cur p (by rw [byV_len]; omega)
        have hDl : (D.take p ++ s ++ D.drop (p + s.length)).length = D.length := by
          rw [List.length_append, List.length_append, List.length_take, List.length_drop]
          omega
        refine ⟨by rw [byV_len, Nat.mul_one], .inr ⟨g, cap, writeA cur p (byV s), by rw [hDl], hb, hH, by rw [hDl]; exact hle, hm, by rw [writeA_size, hcz, Nat.mul_one], ?_⟩⟩
        rw [hDl, Nat.mul_one, hL, byV_len]
        obtain ⟨R, hR⟩ : ∃ R, cur.toList = byV D ++ R := ⟨cur.toList.drop D.length, by rw [← hx, List.take_append_drop]⟩
        have e1 : cur.toList.take p = byV (D.take p) := by
          rw [hR, List.take_append_of_le_length (by rw [byV_len]; omega)]
          unfold byV
          rw [List.map_take]
        have e2 : cur.toList.drop (p + s.length) = byV (D.drop (p + s.length)) ++ R := by
          rw [hR, List.drop_append_of_le_length (by rw [byV_len]; omega)]
          unfold byV
          rw [List.map_drop]
        rw [e1, e2, ← List.append_assoc]
        rw [List.take_append_of_le_length (by rw [List.length_append, List.length_append, byV_len, byV_len, byV_len, List.length_take, List.length_drop]; omega)]
        rw [List.take_of_length_le (by rw [List.length_append, List.length_append, byV_len, byV_len, byV_len, List.length_take, List.length_drop]; omega)]
        unfold byV
        rw [List.map_append, List.map_append]
      · refine ⟨fun k _ hn => cells_block (fun e => hn (by rw [e]; rfl)) _ _, fun w0 h0 => below_setCells h0 hb _ _⟩
end Go.Proofs.Ytjajfeplgilejaa
