/- The law's states as mathematics: entries of shared operations, then of one's own, folded as far as one likes. -/
import Derived.Test.YtphlfepgaghhhabMergeMem
import Derived.Test.YtphlfepgaghhhabLogRow
namespace Go.Proofs.Ytphlfepgaghhhab
set_option linter.unusedSimpArgs false
set_option linter.unusedVariables false
open Go.RowKit

/-- A list of entries from nothing, of which the first ones are folded. -/
def full (st : Nat) (E : List EntV) (k : Nat) : StV := foldK ⟨st, base0, ent0, E⟩ k
/-- The entries of the first n operations of two rows. -/
def entN (l own : List OpV) (q n : Nat) : List EntV := entsOf 1 0 ((l.take n).filter writesM) ++ entsOf q ((l.take n).filter writesM).length ((own.take (n - l.length)).filter writesM)
def entA (l own : List OpV) (q : Nat) : List EntV := entsOf 1 0 (l.filter writesM) ++ entsOf q (l.filter writesM).length (own.filter writesM)
def stM (l own : List OpV) (since fold started : Nat) : StV :=
  full (started % 60) (entA l own (since % 20 + 2)) ((entA l own (since % 20 + 2)).length - 6 + fold % ((entA l own (since % 20 + 2)).length - ((entA l own (since % 20 + 2)).length - 6) + 1))

/-- A list of entries that is one. -/
structure Row (E : List EntV) : Prop where
  chain : chainM ent0 E = true
  ok : ∀ e ∈ E, EntOk e
  len : E.length ≤ 200

theorem entN_nil (l own : List OpV) (q : Nat) : entN l own q 0 = [] := by
  unfold entN
  rw [Nat.zero_sub, List.take_zero, List.take_zero]
  rfl
theorem entN_all (l own : List OpV) (q : Nat) : entN l own q (l.length + own.length) = entA l own q := by
  unfold entN entA
  rw [List.take_of_length_le (show l.length ≤ l.length + own.length by omega), Nat.add_sub_cancel_left, List.take_length]
theorem entN_low {l own : List OpV} {q n : Nat} (h : n ≤ l.length) : entN l own q n = entsOf 1 0 ((l.take n).filter writesM) := by
  unfold entN
  rw [show n - l.length = 0 by omega, List.take_zero]
  show _ ++ [] = _
  rw [List.append_nil]
theorem entN_step1 {l own : List OpV} {q n : Nat} (h : n < l.length) : entN l own q (n + 1) = if writesM l[n] = true then entN l own q n ++ [⟨1, (entN l own q n).length + 1, l[n]⟩] else entN l own q n := by
  rw [entN_low (by omega), entN_low (by omega), filter_take l n h]
  split
  · rw [ents_snoc, ents_len, Nat.zero_add]
  · rfl
theorem entN_step2 {l own : List OpV} {q n : Nat} (h : l.length ≤ n) (h' : n - l.length < own.length) : entN l own q (n + 1) = if writesM own[n - l.length] = true then entN l own q n ++ [⟨q, (entN l own q n).length + 1, own[n - l.length]⟩] else entN l own q n := by
  unfold entN
  rw [List.take_of_length_le (show l.length ≤ n + 1 by omega), List.take_of_length_le h, show n + 1 - l.length = n - l.length + 1 by omega, filter_take own _ h']
  split
  · rw [ents_snoc, List.append_assoc, List.length_append, ents_len, ents_len]
  · rfl
theorem entN_last {l own : List OpV} {q n : Nat} (hq : 2 ≤ q) (hq60 : q ≤ 60) : (n ≤ l.length → (lastE ent0 (entN l own q n)).since ≤ 1) ∧ (lastE ent0 (entN l own q n)).since ≤ q := by
  have h1 : ∀ D : List OpV, (lastE ent0 (entsOf 1 0 D)).since ≤ 1 := fun D => by
    have := ents_last 1 0 D
    have e : posQ 1 0 = ent0 := rfl
    rw [e] at this
    rw [this]
    exact posQ_since _ _
  refine ⟨fun h => by rw [entN_low h]; exact h1 _, ?_⟩
  unfold entN
  rw [lastE_app]
  generalize (own.take (n - l.length)).filter writesM = O
  have h0 := h1 ((l.take n).filter writesM)
  generalize (l.take n).filter writesM = D at *
  generalize lastE ent0 (entsOf 1 0 D) = p at *
  induction O using snoc_ind with
  | h0 => show p.since ≤ q; omega
  | h1 O o _ => rw [ents_snoc, lastE_snoc]; exact Nat.le_refl _
theorem entN_row {l own : List OpV} {q n : Nat} (hq : 2 ≤ q) (hq60 : q ≤ 60) (hl : ∀ o ∈ l, OpOk o) (ho : ∀ o ∈ own, OpOk o) (h1 : l.length ≤ 100) (h2 : own.length ≤ 100) : Row (entN l own q n) := by
  have hw1 := filter_writes (l.take n)
  have hw2 := filter_writes (own.take (n - l.length))
  have hlen1 : ((l.take n).filter writesM).length ≤ 100 := Nat.le_trans (filter_len _) (by rw [List.length_take]; omega)
  have hlen2 : ((own.take (n - l.length)).filter writesM).length ≤ 100 := Nat.le_trans (filter_len _) (by rw [List.length_take]; omega)
  have ho1 := filter_ok (l := l.take n) (fun o h => hl o (List.mem_of_mem_take h))
  have ho2 := filter_ok (l := own.take (n - l.length)) (fun o h => ho o (List.mem_of_mem_take h))
  unfold entN
  generalize (l.take n).filter writesM = D at *
  generalize (own.take (n - l.length)).filter writesM = O at *
  have hc1 : chainM ent0 (entsOf 1 0 D) = true := ents_chain (by decide) hw1 rfl (by decide)
  have hn1 := chain_n ent0 _ hc1
  have hs1 : (lastE ent0 (entsOf 1 0 D)).since ≤ 1 := by
    have := ents_last 1 0 D
    have e : posQ 1 0 = ent0 := rfl
    rw [e] at this
    rw [this]
    exact posQ_since _ _
  refine ⟨?_, ?_, ?_⟩
  · rw [chain_app, Bool.and_eq_true]
    refine ⟨hc1, ents_chain hq60 hw2 ?_ (by omega)⟩
    rw [hn1, ents_len]
    show 0 + _ = _
    omega
  · intro e he
    rcases List.mem_append.1 he with he | he
    · exact ents_ok (by decide) (by omega) ho1 e he
    · exact ents_ok (by omega) (by omega) ho2 e he
  · rw [List.length_append, ents_len, ents_len]; omega
theorem entA_row {l own : List OpV} {q : Nat} (hq : 2 ≤ q) (hq60 : q ≤ 60) (hl : ∀ o ∈ l, OpOk o) (ho : ∀ o ∈ own, OpOk o) (h1 : l.length ≤ 100) (h2 : own.length ≤ 100) : Row (entA l own q) := by
  rw [← entN_all]
  exact entN_row hq hq60 hl ho h1 h2

theorem ent0_fit : EntOk ent0 := ⟨by show 0 < _; decide, by show 0 < _; decide, op0_ok⟩
theorem tail0 : isTailM ent0 = true := rfl
section
variable {E : List EntV} {st k : Nat}
theorem full_ok (hE : Row E) (hs : st < 60) : StOk (full st E k) := by
  refine foldK_ok ⟨by show st < _; omega, base0_ok.in', ent0_fit, hE.ok, by have := hE.len; show E.length ≤ _; omega⟩ base0_ok k
theorem full_is (hE : Row E) (hs : st < 60) (h6 : E.length - k ≤ 6) : isM (full st E k) = true := foldK_is (by show st ≤ 60; omega) tail0 isBase0 hE.chain h6
theorem full_head (hE : Row E) : headE (full st E k) = lastE ent0 E := foldK_head _ _
theorem full_log : (full st E k).log = E.drop k := rfl
theorem full_len : (full st E k).log.length = E.length - k := List.length_drop
theorem full_started : (full st E k).started = st := rfl
theorem row_n (hE : Row E) : (lastE ent0 E).n = E.length := by rw [chain_n _ _ hE.chain]; show 0 + _ = _; omega
theorem row_take (hE : Row E) (n : Nat) : chainM ent0 (E.take n) = true := by
  have : chainM ent0 (E.take n ++ E.drop n) = true := by rw [List.take_append_drop]; exact hE.chain
  rw [chain_app, Bool.and_eq_true] at this
  exact this.1
theorem full_tail_n (hE : Row E) (hk : k ≤ E.length) : (full st E k).tail.n = k := by
  show (lastE ent0 (E.take k)).n = k
  rw [chain_n _ _ (row_take hE k), List.length_take]
  show 0 + _ = _
  omega
theorem full_headM (hE : Row E) (hs : st < 60) (h6 : E.length - k ≤ 6) : headM (full st E k) = ((lastE ent0 E).since, E.length) := by
  unfold headM
  rw [if_pos (full_is hE hs h6), full_head hE, row_n hE]
theorem full_tailM (hE : Row E) (hs : st < 60) (h6 : E.length - k ≤ 6) (hk : k ≤ E.length) {n : Nat} (h1 : k ≤ n) (h2 : n ≤ E.length) : tailM (full st E k) n = (full st E n, 0) := by
  rw [tailM_ok (full_is hE hs h6) (by rw [full_tail_n hE hk]; exact h1) (by rw [full_tail_n hE hk, full_len]; omega), full_tail_n hE hk]
  unfold full
  rw [foldK_two, show k + (n - k) = n by omega]
theorem full_add (hE : Row E) (hs : st < 60) {at' : Nat} {o : OpV} (h1 : (lastE ent0 E).since ≤ at') (h2 : at' ≤ 60) : addM (full st E (E.length - 6)) ⟨at', E.length + 1, o⟩ = if writesM o = true then (full st (E ++ [⟨at', E.length + 1, o⟩]) (E.length + 1 - 6), 0) else (st0, 10) := by
  have hi : isM (full st E (E.length - 6)) = true := full_is hE hs (by omega)
  have hc : canM (full st E (E.length - 6)) ⟨at', E.length + 1, o⟩ = writesM o := by
    unfold canM
    rw [hi, full_head hE, Bool.true_and]
    unfold followsM
    have : (decide ((⟨at', E.length + 1, o⟩ : EntV).n = (lastE ent0 E).n + 1 ∧ (lastE ent0 E).since ≤ (⟨at', E.length + 1, o⟩ : EntV).since ∧ (⟨at', E.length + 1, o⟩ : EntV).since ≤ 60)) = true := by
      rw [decide_eq_true_iff, row_n hE]
      exact ⟨rfl, h1, h2⟩
    rw [this, Bool.and_true]
  cases hw : writesM o with
  | false => rw [if_neg (by simp), add_no (by rw [hc, hw])]
  | true =>
    rw [if_pos rfl, add_yes (by rw [hc, hw])]
    have e1 : ∀ e : EntV, withLog (full st E (E.length - 6)) ((full st E (E.length - 6)).log ++ [e]) = full st (E ++ [e]) (E.length - 6) := fun e => by
      rw [full_log]
      unfold full foldK withLog
      have t1 : (E ++ [e]).take (E.length - 6) = E.take (E.length - 6) := List.take_append_of_le_length (by omega)
      have t2 : (E ++ [e]).drop (E.length - 6) = E.drop (E.length - 6) ++ [e] := List.drop_append_of_le_length (by omega)
      show StV.mk _ _ _ _ = StV.mk _ _ _ _
      simp only [t1, t2]
    rw [e1]
    unfold full
    rw [foldK_two]
    have e2 : (foldK (⟨st, base0, ent0, E⟩ : StV) (E.length - 6)).log.length = E.length - (E.length - 6) := List.length_drop
    rw [e2]
    congr 2
    omega
end
theorem stM_row {l own : List OpV} {since : Nat} (hl : ∀ o ∈ l, OpOk o) (ho : ∀ o ∈ own, OpOk o) (h1 : l.length ≤ 100) (h2 : own.length ≤ 100) : Row (entA l own (since % 20 + 2)) := entA_row (by omega) (by omega) hl ho h1 h2
theorem stM_ok {l own : List OpV} {since fold started : Nat} (hl : ∀ o ∈ l, OpOk o) (ho : ∀ o ∈ own, OpOk o) (h1 : l.length ≤ 100) (h2 : own.length ≤ 100) : StOk (stM l own since fold started) :=
  full_ok (stM_row hl ho h1 h2) (Nat.mod_lt _ (by decide))
theorem stM_is {l own : List OpV} {since fold started : Nat} (hl : ∀ o ∈ l, OpOk o) (ho : ∀ o ∈ own, OpOk o) (h1 : l.length ≤ 100) (h2 : own.length ≤ 100) : isM (stM l own since fold started) = true :=
  full_is (stM_row hl ho h1 h2) (Nat.mod_lt _ (by decide)) (by omega)
theorem entA_len (l own : List OpV) (q : Nat) : (entA l own q).length = (l.filter writesM).length + (own.filter writesM).length := by
  unfold entA
  rw [List.length_append, ents_len, ents_len]
theorem entA_le (l own : List OpV) (q : Nat) : (entA l own q).length ≤ l.length + own.length := by
  rw [entA_len]
  have := filter_len l
  have := filter_len own
  omega
theorem stM_num {l own : List OpV} {since fold started : Nat} (hl : ∀ o ∈ l, OpOk o) (ho : ∀ o ∈ own, OpOk o) (h1 : l.length ≤ 100) (h2 : own.length ≤ 100) : (stM l own since fold started).tail.n + (stM l own since fold started).log.length = (entA l own (since % 20 + 2)).length := by
  rw [← head_num (stM_is hl ho h1 h2)]
  unfold stM
  rw [full_head (stM_row hl ho h1 h2), row_n (stM_row hl ho h1 h2)]
end Go.Proofs.Ytphlfepgaghhhab
