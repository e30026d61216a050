/- What comes of states: rows of operations as states, cutting, folding, adding; that what is added, cut, folded is a state. -/
import Derived.Test.YtphlfepgaghhhaaLogMath
namespace Go.Proofs.Ytphlfepgaghhhaa
set_option linter.unusedSimpArgs false
set_option linter.unusedVariables false
open Go.RowKit

theorem isObj0 : isObjM obj0 = true := rfl
theorem isLast0 : isLastM last0 = true := rfl
theorem isBase0 : isBaseM base0 = true := by
  rw [isBase_is]
  exact ⟨fun _ => isObj0, fun _ => isLast0⟩
theorem is_st0 : isM st0 = true := by
  rw [is_is]
  exact ⟨by decide, rfl, isBase0, by decide, rfl⟩

theorem isBase_ok {b : BaseV} (hb : BaseIn b) (h : isBaseM b = true) : BaseOk b := by
  have h1 := (isBase_is b).1 h
  refine ⟨hb.seq, hb.code, hb.rdata, fun i => ?_, fun i => ?_, fun i => ?_, fun i => ?_⟩ <;>
  · have := (isObj_is _).1 (h1.1 i)
    omega

theorem change_isObj {x : ObjV} {o : OpV} (hx : isObjM x = true) (ho : writesM o = true) : isObjM (changeM x o).1 = true := by
  obtain ⟨_, _, _, hk1, hk4, hd⟩ := writes_client ho
  have h := (isObj_is x).1 hx
  unfold changeM
  split
  · split
    · exact hx
    · rw [isObj_is]
      refine ⟨(fun e => by cases e), ?_, h.2.2⟩
      show (writeS x.data o.pos o.data).length ≤ 16
      rw [writeS_len]
      omega
  · split
    · split
      · exact hx
      · rename_i ht
        have ht : x.there = true := by cases hq : x.there with
          | false => exact absurd hq ht
          | true => rfl
        split
        · exact hx
        · rw [isObj_is]
          refine ⟨fun e => ?_, ?_, h.2.2⟩
          · have e : x.there = false := e
            rw [ht] at e
            cases e
          · show (fitS o.pos x.data).length ≤ 16
            rw [fitS_len]
            omega
    · split
      · split
        · exact hx
        · split
          · exact hx
          · rename_i ht
            have ht : x.there = true := by cases hq : x.there with
              | false => exact absurd hq ht
              | true => rfl
            show isObjM (x.setAttr o.pos o.data) = true
            unfold ObjV.setAttr
            split
            · rw [isObj_is]
              exact ⟨(fun e => by have e : x.there = false := e; rw [ht] at e; cases e), h.2.1, hd, h.2.2.2.1, h.2.2.2.2⟩
            · split
              · rw [isObj_is]
                exact ⟨(fun e => by have e : x.there = false := e; rw [ht] at e; cases e), h.2.1, h.2.2.1, hd, h.2.2.2.2⟩
              · rw [isObj_is]
                exact ⟨(fun e => by have e : x.there = false := e; rw [ht] at e; cases e), h.2.1, h.2.2.1, h.2.2.2.1, hd⟩
      · split
        · exact hx
        · exact isObj0

theorem do_isBase {b : BaseV} {o : OpV} (hb : isBaseM b = true) : isBaseM (doM b o).1 = true := by
  cases hw : writesM o with
  | false => rw [do_bad hw]; exact hb
  | true =>
    by_cases hs : (seenM b o).2 = true
    · rw [do_seen hw hs]; exact hb
    · rw [do_new hw hs]
      have h := (isBase_is b).1 hb
      have hseq := ((isOp_is o).1 ((writes_is o).1 hw).1).2.2.1
      rw [isBase_is]
      refine ⟨fun i => ?_, fun i => ?_⟩
      · show isObjM ((putLast _ _ _).obj i) = true
        rw [putLast_obj]
        by_cases hi : i.val = o.obj
        · rw [putObj_at _ _ _ _ hi]
          refine change_isObj ?_ hw
          rw [objOf_at i hi]
          exact h.1 i
        · rw [putObj_other _ _ _ _ hi]
          exact h.1 i
      · show isLastM ((putLast _ _ _).last i) = true
        by_cases hi : i.val = o.client - 1
        · rw [putLast_at _ _ _ _ hi, isLast_is]
          have := code_le (objOf b o) o
          exact ⟨rfl, this, fun e => by have e : o.seq = 0 := e; omega⟩
        · rw [putLast_other _ _ _ _ hi, putObj_last]
          exact h.2 i
theorem all_isBase {b : BaseV} (hb : isBaseM b = true) (l : List OpV) : isBaseM (allM b l).1 = true := by
  induction l using snoc_ind with
  | h0 => exact hb
  | h1 l o ih => rw [all_snoc]; exact do_isBase ih
theorem done_all (b : BaseV) (l : List EntV) : doneM b l = (allM b (l.map (·.op))).1 := by
  induction l using snoc_ind with
  | h0 => rfl
  | h1 l e ih =>
    rw [List.map_append]
    show doneM b (l ++ [e]) = (allM b (l.map (·.op) ++ [e.op])).1
    rw [all_snoc, ← ih]
    unfold doneM
    rw [List.foldl_append]
    rfl
theorem done_isBase {b : BaseV} (hb : isBaseM b = true) (l : List EntV) : isBaseM (doneM b l) = true := by rw [done_all]; exact all_isBase hb _
theorem done_app (b : BaseV) (l m : List EntV) : doneM b (l ++ m) = doneM (doneM b l) m := by
  unfold doneM
  rw [List.foldl_append]
theorem done_in {b : BaseV} (hb : BaseOk b) (l : List EntV) (hl : ∀ e ∈ l, EntOk e) : BaseOk (doneM b l) := by
  rw [done_all]
  exact all_ok hb _ (fun o ho => by obtain ⟨e, he, rfl⟩ := List.mem_map.1 ho; exact (hl e he).op)

theorem lastE_tail {t : EntV} (ht : isTailM t = true) {l : List EntV} (hc : chainM t l = true) : isTailM (lastE t l) = true := by
  have h1 := (isTail_is t).1 ht
  have h2 := chain_since t l hc
  rw [isTail_is]
  refine ⟨h2.2 h1.1, ?_⟩
  induction l using snoc_ind with
  | h0 => exact h1.2
  | h1 l e _ => rw [lastE_snoc]; rfl

/-- Folding leaves a state, whatever its log's length was. -/
theorem foldK_is {s : StV} {k : Nat} (h0 : s.started ≤ 60) (h1 : isTailM s.tail = true) (h2 : isBaseM s.base = true) (h3 : chainM s.tail s.log = true) (h4 : s.log.length - k ≤ 6) : isM (foldK s k) = true := by
  have hc : chainM s.tail (s.log.take k ++ s.log.drop k) = true := by rw [List.take_append_drop]; exact h3
  rw [chain_app, Bool.and_eq_true] at hc
  rw [is_is]
  refine ⟨h0, lastE_tail h1 hc.1, done_isBase h2 _, ?_, hc.2⟩
  show (s.log.drop k).length ≤ 6
  rw [List.length_drop]
  omega
theorem foldK_head (s : StV) (k : Nat) : headE (foldK s k) = headE s := by
  show lastE (lastE s.tail (s.log.take k)) (s.log.drop k) = lastE s.tail s.log
  rw [← lastE_app, List.take_append_drop]
theorem foldK_done (s : StV) (k : Nat) : doneM (foldK s k).base (foldK s k).log = doneM s.base s.log := by
  show doneM (doneM s.base (s.log.take k)) (s.log.drop k) = _
  rw [← done_app, List.take_append_drop]

theorem can_is {s : StV} {e : EntV} : canM s e = true ↔ isM s = true ∧ followsM (headE s) e = true := by
  unfold canM
  rw [Bool.and_eq_true]
theorem add_yes {s : StV} {e : EntV} (h : canM s e = true) : addM s e = (foldK (withLog s (s.log ++ [e])) (s.log.length + 1 - 6), 0) := by unfold addM; rw [if_pos h]
theorem add_no {s : StV} {e : EntV} (h : canM s e = false) : addM s e = (st0, 10) := by unfold addM; rw [if_neg (by rw [h]; simp)]
theorem add_is {s : StV} {e : EntV} (h : canM s e = true) : isM (addM s e).1 = true := by
  rw [add_yes h]
  obtain ⟨h1, h2⟩ := can_is.1 h
  obtain ⟨a, b, c, d, f⟩ := (is_is s).1 h1
  refine foldK_is a b c ?_ ?_
  · show chainM s.tail (s.log ++ [e]) = true
    rw [chain_snoc, Bool.and_eq_true]
    exact ⟨f, h2⟩
  · show (s.log ++ [e]).length - _ ≤ 6
    rw [List.length_append, List.length_singleton]
    omega
theorem add_head {s : StV} {e : EntV} (h : canM s e = true) : headE (addM s e).1 = posE e := by
  rw [add_yes h, foldK_head]
  exact lastE_snoc _ _ _
theorem add_fold {s : StV} {e : EntV} (h : canM s e = true) : foldM (addM s e).1 = (doM (foldM s) e.op).1 := by
  have h1 := add_is h
  unfold foldM
  rw [if_pos h1, if_pos (can_is.1 h).1, add_yes h, foldK_done]
  show doneM s.base (s.log ++ [e]) = _
  rw [done_app]
  rfl

/-- Entries of a row of operations: behind number k, all of interval q. -/
def entsOf (q : Nat) : Nat → List OpV → List EntV
  | _, [] => []
  | k, o :: l => ⟨q, k + 1, o⟩ :: entsOf q (k + 1) l
def posQ (q k : Nat) : EntV := if k = 0 then ent0 else ⟨q, k, op0⟩
/-- The state of a row of operations, of which k are folded. -/
def sK (q : Nat) (D : List OpV) (k : Nat) : StV := ⟨0, (allM base0 (D.take k)).1, posQ q k, entsOf q k (D.drop k)⟩
/-- The state that comes of adding them one by one. -/
def stOf (q : Nat) (D : List OpV) : StV := sK q D (D.length - 6)

theorem ents_len (q k : Nat) (l : List OpV) : (entsOf q k l).length = l.length := by
  induction l generalizing k with
  | nil => rfl
  | cons o l ih => show (entsOf q (k + 1) l).length + 1 = _; rw [ih]; rfl
theorem ents_take (q k m : Nat) (l : List OpV) : (entsOf q k l).take m = entsOf q k (l.take m) := by
  induction l generalizing k m with
  | nil => rw [List.take_nil]; show List.take m [] = []; rw [List.take_nil]
  | cons o l ih =>
    cases m with
    | zero => rfl
    | succ m => show (_ :: (entsOf q (k + 1) l).take m) = _; rw [ih]; rfl
theorem ents_drop (q k m : Nat) (l : List OpV) : (entsOf q k l).drop m = entsOf q (k + m) (l.drop m) := by
  induction l generalizing k m with
  | nil => rw [List.drop_nil]; simp [entsOf]
  | cons o l ih =>
    cases m with
    | zero => rfl
    | succ m => show (entsOf q (k + 1) l).drop m = entsOf q (k + (m + 1)) (l.drop m); rw [ih, show k + 1 + m = k + (m + 1) by omega]
theorem ents_snoc (q k : Nat) (l : List OpV) (o : OpV) : entsOf q k (l ++ [o]) = entsOf q k l ++ [⟨q, k + l.length + 1, o⟩] := by
  induction l generalizing k with
  | nil => rfl
  | cons p l ih =>
    show _ :: entsOf q (k + 1) (l ++ [o]) = _
    rw [ih, show k + 1 + l.length + 1 = k + (p :: l).length + 1 by rw [List.length_cons]; omega]
    rfl
theorem ents_ops (q k : Nat) (l : List OpV) : (entsOf q k l).map (·.op) = l := by
  induction l generalizing k with
  | nil => rfl
  | cons o l ih => show o :: (entsOf q (k + 1) l).map (·.op) = _; rw [ih]
theorem ents_at (q k : Nat) (l : List OpV) (i : Nat) (h : i < l.length) : (entsOf q k l)[i]'(by rw [ents_len]; exact h) = ⟨q, k + i + 1, l[i]⟩ := by
  induction l generalizing k i with
  | nil => cases h
  | cons o l ih =>
    cases i with
    | zero => rfl
    | succ i =>
      have := ih (k + 1) i (by simpa using h)
      show (entsOf q (k + 1) l)[i]'_ = _
      rw [this, show k + 1 + i + 1 = k + (i + 1) + 1 by omega]
      rfl
theorem ents_ok {q k : Nat} {l : List OpV} (hq : q < 4294967296) (hk : k + l.length < 4294967296) (hl : ∀ o ∈ l, OpOk o) : ∀ e ∈ entsOf q k l, EntOk e := by
  induction l generalizing k with
  | nil => intro e he; cases he
  | cons o l ih =>
    intro e he
    rw [List.length_cons] at hk
    rcases List.mem_cons.1 he with rfl | he
    · exact ⟨hq, show k + 1 < _ by omega, hl o (List.mem_cons_self ..)⟩
    · exact ih (k := k + 1) (by omega) (fun p hp => hl p (List.mem_cons_of_mem _ hp)) e he
theorem posQ_n (q k : Nat) : (posQ q k).n = k := by
  unfold posQ
  split
  · rename_i h; rw [h]; rfl
  · rfl
theorem posQ_since (q k : Nat) : (posQ q k).since ≤ q := by
  unfold posQ
  split
  · exact Nat.zero_le _
  · exact Nat.le_refl _
theorem op0_ok : OpOk op0 := ⟨by decide, by decide, by decide, by decide, by decide, by decide⟩
theorem posQ_ok {q k : Nat} (hq : q < 4294967296) (hk : k < 4294967296) : EntOk (posQ q k) := by
  unfold posQ
  split
  · exact ⟨by decide, by decide, op0_ok⟩
  · exact ⟨hq, hk, op0_ok⟩
theorem posQ_tail {q k : Nat} (hq : q ≤ 60) : isTailM (posQ q k) = true := by
  rw [isTail_is]
  have := posQ_since q k
  refine ⟨by omega, ?_⟩
  unfold posQ
  split <;> rfl

theorem ents_chain {q k : Nat} {l : List OpV} (hq : q ≤ 60) (hl : ∀ o ∈ l, writesM o = true) {p : EntV} (hp : p.n = k) (hs : p.since ≤ q) : chainM p (entsOf q k l) = true := by
  induction l generalizing k p with
  | nil => rfl
  | cons o l ih =>
    show (followsM p ⟨q, k + 1, o⟩ && chainM (posE ⟨q, k + 1, o⟩) (entsOf q (k + 1) l)) = true
    rw [Bool.and_eq_true]
    exact ⟨follows_is.2 ⟨hl o (List.mem_cons_self ..), by show k + 1 = _; omega, hs, hq⟩, ih (fun p hp => hl p (List.mem_cons_of_mem _ hp)) rfl (Nat.le_refl q)⟩
theorem ents_last (q k : Nat) (l : List OpV) : lastE (posQ q k) (entsOf q k l) = posQ q (k + l.length) := by
  induction l using snoc_ind with
  | h0 => rfl
  | h1 l o _ =>
    rw [ents_snoc, lastE_snoc, List.length_append, List.length_singleton, ← Nat.add_assoc]
    unfold posE posQ
    rw [if_neg (by omega)]

section
variable {q : Nat} {D : List OpV} {k : Nat}
theorem sK_len : (sK q D k).log.length = D.length - k := by
  show (entsOf q k (D.drop k)).length = _
  rw [ents_len, List.length_drop]
theorem sK_tail_n : (sK q D k).tail.n = k := posQ_n q k
theorem sK_is (hq : q ≤ 60) (hD : ∀ o ∈ D, writesM o = true) (h6 : D.length - k ≤ 6) : isM (sK q D k) = true := by
  rw [is_is]
  refine ⟨Nat.zero_le _, posQ_tail hq, all_isBase isBase0 _, by rw [sK_len]; exact h6, ?_⟩
  exact ents_chain hq (fun o ho => hD o (List.mem_of_mem_drop ho)) (posQ_n q k) (posQ_since q k)
theorem sK_ok (hq : q ≤ 60) (hD : ∀ o ∈ D, OpOk o) (hn : D.length ≤ 1000) (hk : k ≤ D.length) : StOk (sK q D k) := by
  refine ⟨by show 0 < _; decide, (all_ok base0_ok _ (fun o ho => hD o (List.mem_of_mem_take ho))).in', posQ_ok (by omega) (by omega), ?_, by rw [sK_len]; omega⟩
  exact ents_ok (by omega) (by rw [List.length_drop]; omega) (fun o ho => hD o (List.mem_of_mem_drop ho))
theorem sK_head (hk : k ≤ D.length) : headE (sK q D k) = posQ q D.length := by
  show lastE (posQ q k) (entsOf q k (D.drop k)) = _
  rw [ents_last, List.length_drop, show k + (D.length - k) = D.length by omega]
theorem sK_headM (hq : q ≤ 60) (hD : ∀ o ∈ D, writesM o = true) (h6 : D.length - k ≤ 6) (hk : k ≤ D.length) : headM (sK q D k) = ((posQ q D.length).since, D.length) := by
  unfold headM
  rw [if_pos (sK_is hq hD h6), sK_head hk, posQ_n]
theorem sK_fold (hq : q ≤ 60) (hD : ∀ o ∈ D, writesM o = true) (h6 : D.length - k ≤ 6) : foldM (sK q D k) = (allM base0 D).1 := by
  unfold foldM
  rw [if_pos (sK_is hq hD h6), done_all]
  show (allM (allM base0 (D.take k)).1 ((entsOf q k (D.drop k)).map (·.op))).1 = _
  rw [ents_ops]
  have : ∀ a b : List OpV, (allM base0 (a ++ b)).1 = (allM (allM base0 a).1 b).1 := by
    intro a b
    induction b using snoc_ind with
    | h0 => rw [List.append_nil]; rfl
    | h1 b o ih => rw [← List.append_assoc, all_snoc, all_snoc, ih]
  rw [← this, List.take_append_drop]
theorem sK_reach (hq : q ≤ 60) (hD : ∀ o ∈ D, writesM o = true) (h6 : D.length - k ≤ 6) (hk : k ≤ D.length) (n : Nat) : reachM (sK q D k) n = if n < k then (0, 80) else if D.length < n then (0, 141) else (n - k, 0) := by
  unfold reachM
  rw [if_neg (by rw [sK_is hq hD h6]; simp), sK_tail_n, sK_head hk, posQ_n]
theorem sK_reach_in (hq : q ≤ 60) (hD : ∀ o ∈ D, writesM o = true) (h6 : D.length - k ≤ 6) (hk : k ≤ D.length) {n : Nat} (h1 : k ≤ n) (h2 : n ≤ D.length) : reachM (sK q D k) n = (n - k, 0) := by
  rw [sK_reach hq hD h6 hk, if_neg (by omega), if_neg (by omega)]
theorem sK_cut (hq : q ≤ 60) (hD : ∀ o ∈ D, writesM o = true) (h6 : D.length - k ≤ 6) (hk : k ≤ D.length) {n : Nat} (h1 : k ≤ n) (h2 : n ≤ D.length) : cutM (sK q D k) n = (sK q (D.take n) k, 0) := by
  have hr := sK_reach_in hq hD h6 hk h1 h2
  unfold cutM
  rw [hr, if_pos rfl]
  unfold withLog sK
  congr 2
  · rw [List.take_take, Nat.min_eq_left h1]
  · show (entsOf q k (D.drop k)).take (n - k) = _
    rw [ents_take, List.drop_take]
theorem sK_tail (hq : q ≤ 60) (hD : ∀ o ∈ D, writesM o = true) (h6 : D.length - k ≤ 6) (hk : k ≤ D.length) {n : Nat} (h1 : k ≤ n) (h2 : n ≤ D.length) : tailM (sK q D k) n = (sK q D n, 0) := by
  have hr := sK_reach_in hq hD h6 hk h1 h2
  unfold tailM
  rw [hr, if_pos rfl]
  have e1 : doneM (sK q D k).base ((sK q D k).log.take (n - k)) = (allM base0 (D.take n)).1 := by
    show doneM (allM base0 (D.take k)).1 ((entsOf q k (D.drop k)).take (n - k)) = _
    have := sK_fold (q := q) (D := D.take n) (k := k) hq (fun o ho => hD o (List.mem_of_mem_take ho)) (by rw [List.length_take]; omega)
    unfold foldM at this
    rw [if_pos (sK_is hq (fun o ho => hD o (List.mem_of_mem_take ho)) (by rw [List.length_take]; omega))] at this
    rw [← this]
    show _ = doneM (allM base0 ((D.take n).take k)).1 (entsOf q k ((D.take n).drop k))
    rw [List.take_take, Nat.min_eq_left h1, ents_take, List.drop_take]
  have e2 : lastE (sK q D k).tail ((sK q D k).log.take (n - k)) = posQ q n := by
    show lastE (posQ q k) ((entsOf q k (D.drop k)).take (n - k)) = _
    rw [ents_take, ents_last, List.length_take, List.length_drop, show k + min (n - k) (D.length - k) = n by omega]
  have e3 : (sK q D k).log.drop (n - k) = entsOf q n (D.drop n) := by
    show (entsOf q k (D.drop k)).drop (n - k) = _
    rw [ents_drop, List.drop_drop, show k + (n - k) = n by omega]
  unfold foldK
  rw [e1, e2, e3]
  rfl
theorem sK_upto (hq : q ≤ 60) (hD : ∀ o ∈ D, writesM o = true) (h6 : D.length - k ≤ 6) (hk : k ≤ D.length) {n : Nat} (h1 : k ≤ n) (h2 : n ≤ D.length) : uptoM (sK q D k) n = ((allM base0 (D.take n)).1, true) := by
  have hr := sK_reach_in hq hD h6 hk h1 h2
  have ht := sK_tail hq hD h6 hk h1 h2
  unfold tailM at ht
  rw [hr, if_pos rfl] at ht
  unfold uptoM
  rw [hr, if_pos rfl]
  have := congrArg (fun p : StV × Nat => p.1.base) ht
  exact congrArg (fun b => (b, true)) this
theorem sK_find (hq : q ≤ 60) (hD : ∀ o ∈ D, writesM o = true) (h6 : D.length - k ≤ 6) (hk : k ≤ D.length) {n : Nat} (h1 : k < n) (h2 : n - 1 < D.length) : findM (sK q D k) n = (⟨q, n, D[n - 1]⟩, true) := by
  have hr := sK_reach_in hq hD h6 hk (n := n) (by omega) (by omega)
  unfold findM
  rw [hr, if_pos ⟨rfl, by show n - k ≠ 0; omega⟩]
  show ((entsOf q k (D.drop k)).getD (n - k - 1) ent0, true) = _
  have hl : n - k - 1 < (D.drop k).length := by rw [List.length_drop]; omega
  rw [List.getD_eq_getElem?_getD, List.getElem?_eq_getElem (by rw [ents_len]; exact hl), ents_at q k _ _ hl]
  simp only [Option.getD_some, List.getElem_drop]
  have e1 : k + (n - k - 1) + 1 = n := by omega
  have e2 : k + (n - k - 1) = n - 1 := by omega
  simp only [e2, show n - 1 + 1 = n by omega]
theorem sK_find_no (hq : q ≤ 60) (hD : ∀ o ∈ D, writesM o = true) (h6 : D.length - k ≤ 6) (hk : k ≤ D.length) {n : Nat} (h : n ≤ k ∨ D.length < n) : findM (sK q D k) n = (ent0, false) := by
  have hr := sK_reach hq hD h6 hk n
  unfold findM
  rw [hr]
  by_cases h1 : n < k
  · rw [if_pos h1, if_neg (fun h => by cases h.1)]
  · rw [if_neg h1]
    by_cases h2 : D.length < n
    · rw [if_pos h2, if_neg (fun h => by cases h.1)]
    · rw [if_neg h2, if_neg (fun h => h.2 (by show n - k = 0; omega))]
theorem sK_none (hq : q ≤ 60) (hD : ∀ o ∈ D, writesM o = true) (h6 : D.length - k ≤ 6) (hk : k ≤ D.length) : cutM (sK q D k) (D.length + 1) = (st0, 141) ∧ tailM (sK q D k) (D.length + 1) = (st0, 141) := by
  have hr := sK_reach hq hD h6 hk (D.length + 1)
  rw [if_neg (by omega), if_pos (by omega)] at hr
  unfold cutM tailM
  rw [hr]
  exact ⟨rfl, rfl⟩
theorem sK_below (hq : q ≤ 60) (hD : ∀ o ∈ D, writesM o = true) (h6 : D.length - k ≤ 6) (hk : k ≤ D.length) {n : Nat} (h : n < k) : tailM (sK q D k) n = (st0, 80) := by
  have hr := sK_reach hq hD h6 hk n
  rw [if_pos h] at hr
  unfold tailM
  rw [hr]
  rfl
end

theorem stOf_add {q : Nat} {D : List OpV} {o : OpV} (hq : q ≤ 60) (hD : ∀ o ∈ D, writesM o = true) :
    addM (stOf q D) ⟨q, D.length + 1, o⟩ = if writesM o = true then (stOf q (D ++ [o]), 0) else (st0, 10) := by
  have his : isM (stOf q D) = true := sK_is hq hD (by omega)
  have hh : headE (stOf q D) = posQ q D.length := sK_head (by omega)
  have hc : canM (stOf q D) ⟨q, D.length + 1, o⟩ = writesM o := by
    unfold canM
    rw [his, hh, Bool.true_and]
    unfold followsM
    have : (decide ((⟨q, D.length + 1, o⟩ : EntV).n = (posQ q D.length).n + 1 ∧ (posQ q D.length).since ≤ (⟨q, D.length + 1, o⟩ : EntV).since ∧ (⟨q, D.length + 1, o⟩ : EntV).since ≤ 60)) = true := by
      rw [decide_eq_true_iff, posQ_n]
      exact ⟨rfl, posQ_since _ _, hq⟩
    rw [this, Bool.and_true]
  cases hw : writesM o with
  | false => rw [if_neg (by simp), add_no (by rw [hc, hw])]
  | true =>
    rw [if_pos rfl, add_yes (by rw [hc, hw])]
    have hD' : ∀ p ∈ D ++ [o], writesM p = true := fun p hp => by
      rcases List.mem_append.1 hp with h | h
      · exact hD p h
      · rw [List.mem_singleton.1 h]; exact hw
    have e0 : withLog (stOf q D) ((stOf q D).log ++ [⟨q, D.length + 1, o⟩]) = sK q (D ++ [o]) (D.length - 6) := by
      unfold stOf withLog sK
      have e1 : (D ++ [o]).take (D.length - 6) = D.take (D.length - 6) := List.take_append_of_le_length (by omega)
      have e2 : (D ++ [o]).drop (D.length - 6) = D.drop (D.length - 6) ++ [o] := List.drop_append_of_le_length (by omega)
      rw [e1, e2, ents_snoc, List.length_drop, show D.length - 6 + (D.length - (D.length - 6)) + 1 = D.length + 1 by omega]
    have e1 : (stOf q D).log.length = D.length - (D.length - 6) := sK_len
    rw [e0, e1]
    have hl : (D ++ [o]).length = D.length + 1 := by rw [List.length_append]; rfl
    have hs : stOf q (D ++ [o]) = sK q (D ++ [o]) (D.length + 1 - 6) := by unfold stOf; rw [hl]
    rw [hs]
    by_cases h6 : D.length + 1 ≤ 6
    · rw [show D.length - (D.length - 6) + 1 - 6 = 0 by omega, show D.length - 6 = 0 by omega, show D.length + 1 - 6 = 0 by omega]
      rfl
    · rw [show D.length - (D.length - 6) + 1 - 6 = 1 by omega]
      have e3 : ∀ m, m = D.length - 6 → foldK (sK q (D ++ [o]) m) 1 = sK q (D ++ [o]) (m + 1) := by
        intro m hm
        have hlt : m < (D ++ [o]).length := by omega
        have ed : (D ++ [o]).drop m = (D ++ [o])[m] :: (D ++ [o]).drop (m + 1) := List.drop_eq_getElem_cons hlt
        have et : (D ++ [o]).take (m + 1) = (D ++ [o]).take m ++ [(D ++ [o])[m]] := List.take_succ_eq_append_getElem hlt
        unfold foldK sK
        simp only [ed, et, entsOf]
        rw [all_snoc]
        simp only [List.take_succ_cons, List.take_zero, List.drop_succ_cons, List.drop_zero]
        congr 1
      rw [e3 _ rfl, show D.length - 6 + 1 = D.length + 1 - 6 by omega]

/-- Later operations leave a client's last number no less. -/
theorem last_mono (b : BaseV) (p o : OpV) : (lastOf b o).seq ≤ (lastOf (doM b p).1 o).seq := by
  cases hw : writesM p with
  | false => rw [do_bad hw]; exact Nat.le_refl _
  | true =>
    by_cases hs : (seenM b p).2 = true
    · rw [do_seen hw hs]; exact Nat.le_refl _
    · by_cases hc : p.client - 1 = o.client - 1
      · have h1 : ¬ p.seq ≤ (lastOf b p).seq := fun h => hs ((seen_is hw).2 h)
        have h2 := do_last (b := b) hw
        have e : ∀ c : BaseV, lastOf c o = lastOf c p := fun c => by unfold lastOf; simp only [hc]
        rw [e, e]
        omega
      · rw [lastOf_do hc]; exact Nat.le_refl _
theorem last_mono_all (b : BaseV) (l : List OpV) (o : OpV) : (lastOf b o).seq ≤ (lastOf (allM b l).1 o).seq := by
  induction l using snoc_ind with
  | h0 => exact Nat.le_refl _
  | h1 l p ih => rw [all_snoc]; exact Nat.le_trans ih (last_mono _ _ _)
theorem all_app (b : BaseV) (l m : List OpV) : (allM b (l ++ m)).1 = (allM (allM b l).1 m).1 := by
  induction m using snoc_ind with
  | h0 => rw [List.append_nil]; rfl
  | h1 m o ih => rw [← List.append_assoc, all_snoc, all_snoc, ih]
theorem seen_all (b : BaseV) (D : List OpV) (i : Nat) (h : i < D.length) (hw : writesM D[i] = true) : (seenM (allM b D).1 D[i]).2 = true := by
  rw [seen_is hw]
  have e : D = (D.take i ++ [D[i]]) ++ D.drop (i + 1) := by rw [← List.take_succ_eq_append_getElem h, List.take_append_drop]
  have : (allM b D).1 = (allM (doM (allM b (D.take i)).1 D[i]).1 (D.drop (i + 1))).1 := by
    have h2 : (allM b D).1 = (allM b ((D.take i ++ [D[i]]) ++ D.drop (i + 1))).1 := congrArg (fun l => (allM b l).1) e
    rw [h2, all_app, all_snoc]
  rw [this]
  exact Nat.le_trans (do_last hw) (last_mono_all _ _ _)
end Go.Proofs.Ytphlfepgaghhhaa
