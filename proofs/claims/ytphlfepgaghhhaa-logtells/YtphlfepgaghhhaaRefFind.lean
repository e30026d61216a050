/- The contract of the document's Find. -/
import Derived.Test.YtphlfepgaghhhaaRefUpto
namespace Go.Proofs.Ytphlfepgaghhhaa
set_option linter.unusedSimpArgs false
set_option linter.unusedVariables false
set_option maxRecDepth 100000
open Go.RowKit

theorem find_form {s : StV} {n : Nat} (hi : isM s = false) : findM s n = (ent0, false) := find_no (.inl (by rw [reach_form hi]; decide))
theorem find_at {s : StV} {n m : Nat} (hi : isM s = true) (hm : m < s.log.length) (h : s.log[m].n = n) : findM s n = (s.log[m], true) := by
  have hch : chainM s.tail s.log = true := ((is_is s).1 hi).2.2.2.2
  have hcn : (headE s).n = s.tail.n + s.log.length := chain_n _ _ hch
  have hat := chain_at hch m hm
  have hre : reachM s n = (m + 1, 0) := by rw [reach_in hi (by omega) (by omega)]; congr 1; omega
  exact find_yes (by rw [hre]) (by rw [hre]) hm
theorem find_none {s : StV} {n : Nat} (h : ∀ (j : Nat) (hj : j < s.log.length), s.log[j].n ≠ n) : findM s n = (ent0, false) := by
  cases hi : isM s with
  | false => exact find_form hi
  | true =>
    have hch : chainM s.tail s.log = true := ((is_is s).1 hi).2.2.2.2
    have hcn : (headE s).n = s.tail.n + s.log.length := chain_n _ _ hch
    by_cases h1 : n < s.tail.n
    · exact find_no (.inl (by rw [reach_below hi h1]; decide))
    · by_cases h2 : (headE s).n < n
      · exact find_no (.inl (by rw [reach_above hi h1 h2]; decide))
      · by_cases h3 : n = s.tail.n
        · exact find_no (.inr (by rw [reach_in hi h1 h2]; simp only; omega))
        · have hj : n - s.tail.n - 1 < s.log.length := by omega
          exact absurd (by have := chain_at hch _ hj; omega) (h _ hj)

set_option maxHeartbeats 4000000 in
theorem reffind_any (s : StV) (ao : Option Addr) (c n : Nat) (w : World) (hs : StOk s) (h : Sl w ao c 8 (entR s.log)) (hn : n < 4294967296) :
    Calls Try.prog 28 #[.agg (stC s ao c), .int .u32 (n : Int)] w fun en w' => en = .returned (.tuple #[.agg (entC (findM s n).1), .bool (findM s n).2]) ∧ Below w.heap.size w w' := by
  obtain ⟨w1, hw1, hX, hR, hb⟩ := two_vars w 40 37 (stC s ao c) (entC ent0)
  have hlen := hs.len
  have hle := h.ent_le
  have hcap := h.cap
  go_enter Try.func28, Try.ntmps28
  go_wp2_with (first
    | (refine wpList_alloc_has (by rfl) 37 rfl (entC ent0) ent_zero ?_; rw [hw1]))
  go_loopw [6] (fun i wr => ∃ m : Nat, m ≤ s.log.length ∧ i = .int .i64 m ∧ Has wr w.heap.size 40 (stC s ao c) ∧ Has wr (w.heap.size + 1) 37 (entC ent0) ∧ Below w.heap.size w wr ∧ Hid (∀ (j : Nat) (hj : j < s.log.length), j < m → s.log[j].n ≠ n)) (fun i _ => s.log.length - (intOf i).toNat)
  case atStart => exact ⟨0, Nat.zero_le _, rfl, hX, hR, hb, fun j hj hh => absurd hh (by omega)⟩
  case round =>
    clear hX hR hb
    obtain ⟨m, hm, rfl, hX, hR, hb, hno⟩ := hrel
    have c48 := hX.st_log
    have hz := hR.row (entC ent0)
    have hbz := below_setRow hb (show w.heap.size ≤ w.heap.size + 1 by omega) (entC ent0)
    by_cases hlt : m < s.log.length
    · cases ao with
      | none => have := h.nil rfl; omega
      | some ad =>
        have hlI : (m : Int) < (s.log.length : Int) := by omega
        clear hz hbz
        go_wp2_with (first
          | (refine wpList_load_has (by first | rfl | simp [Region.wanted, yielded]) 40 _ rfl w.heap.size rfl 40 (stC s (some ad) c) _ Try.underlying40 rfl (st_size _ _ _) ?hg ?_; (case hg => exact hX)))
        refine (refis_any s (some ad) c _ hs (h.later hb)).mono ?_
        rintro en w2 ⟨rfl, hq⟩
        replace hX := hX.later hq
        replace hR := hR.later hq
        replace hb := hb.trans (hq.mono hb.size)
        clear hq c48
        cases hi : isM s with
        | false =>
          have hM : Hid _ := find_form (s := s) (n := n) hi
          have hz := hR.row (entC ent0)
          have hbz := below_setRow hb (show w.heap.size ≤ w.heap.size + 1 by omega) (entC ent0)
          go_wp2_with ((with_reducible refine at_open ?_); first
            | (refine wpList_build_has (by rfl) 37 #[] rfl (entC ent0) (by simpa using ent_built0) ?_)
            | (refine wpList_store_has (by rfl) 37 _ _ rfl (w.heap.size + 1) rfl (entC ent0) rfl 37 (entC ent0) (ent_size _) rfl (ent_one _) ?hg ?_; (case hg => exact hR)))
          exact ret_has_tmp rfl (w.heap.size + 1) rfl 37 (entC ent0) _ Try.underlying37 rfl (ent_size _) hz rfl ⟨by rw [hM.out]; rfl, hbz⟩
        | true =>
          have c48 := hX.st_log
          have hx := ent_at (h.later hb) m hlt
          have hxo := (hs.log s.log[m] (List.getElem_mem hlt)).n
          have cn := hx 1 _ rfl
          replace cn : w2.cell? ⟨(ad.add (m * 8)).block, (ad.add (m * 8)).off + 1, none⟩ = some (.int .u32 (s.log[m].n : Int)) := cn
          by_cases hxn : s.log[m].n = n
          · have hM : Hid _ := find_at hi hlt hxn
            have hxB : ((s.log[m].n : Int) == (n : Int)) = true := by rw [beq_iff_eq]; omega
            have hxC : (s.log[m].n == n) = true := by rw [beq_iff_eq]; omega
            replace hxn : Hid _ := hxn
            generalize s.log[m] = x at *
            have hz := hR.row (entC x)
            have hbz := below_setRow hb (show w.heap.size ≤ w.heap.size + 1 by omega) (entC x)
            go_wp2_with (first
              | (refine wpList_load_any (by rfl) 37 _ rfl _ rfl (entL x) _ ?hg Try.underlying37 rfl (ent_size x) ?_; (case hg => exact hx))
              | (refine wpList_store_has (by rfl) 37 _ _ rfl (w.heap.size + 1) rfl (entC x) rfl 37 (entC ent0) (ent_size _) rfl (ent_one _) ?hg ?_; (case hg => exact hR)))
            exact ret_has_tmp rfl (w.heap.size + 1) rfl 37 (entC x) _ Try.underlying37 rfl (ent_size _) hz rfl ⟨by rw [hM.out]; rfl, hbz⟩
          · have hxB : ((s.log[m].n : Int) == (n : Int)) = false := by rw [beq_eq_false_iff_ne]; omega
            have hxC : (s.log[m].n == n) = false := by rw [beq_eq_false_iff_ne]; omega
            have hno2 : Hid (∀ (j : Nat) (hj : j < s.log.length), j < m + 1 → s.log[j].n ≠ n) := fun j hj hjm => by
              by_cases e : j = m
              · subst e; exact hxn
              · exact hno.out j hj (by omega)
            clear hx hno hxn
            generalize s.log[m] = x at *
            go_wp2
            go_roundw
            case rel => exact ⟨m + 1, by omega, by go_num, hX, hR, hb, hno2⟩
            case measure => simp [intOf]; omega
    · have hlI : ¬ (m : Int) < (s.log.length : Int) := by omega
      have hM : Hid _ := find_none (s := s) (n := n) (fun j hj => hno.out j hj (by omega))
      go_wp2_with ((with_reducible refine at_open ?_); first
        | (refine wpList_build_has (by rfl) 37 #[] rfl (entC ent0) (by simpa using ent_built0) ?_)
        | (refine wpList_store_has (by rfl) 37 _ _ rfl (w.heap.size + 1) rfl (entC ent0) rfl 37 (entC ent0) (ent_size _) rfl (ent_one _) ?hg ?_; (case hg => exact hR)))
      exact ret_has_tmp rfl (w.heap.size + 1) rfl 37 (entC ent0) _ Try.underlying37 rfl (ent_size _) hz rfl ⟨by rw [hM.out]; rfl, hbz⟩
end Go.Proofs.Ytphlfepgaghhhaa
