/- Differences as mathematics: what the document asks of Make, Apply, Extends, Bytes (layer 8); that what was made, applied, is the other one. -/
import Derived.Test.YtecilienolabfaaGreatDoorPackLog
namespace Go.Proofs.YtecilienolabfaaGreatDoor
set_option linter.unusedSimpArgs false
set_option linter.unusedVariables false
open Go.RowKit

structure DiffV where
  kind : Int
  fr : Nat
  log : List EntV
  whole : StV

def diffL (d : DiffV) (lo : Option Addr) (lc : Nat) (wo : Option Addr) (wc : Nat) : List Value := .int .i64 d.kind :: .int .u32 (d.fr : Int) :: .slice lo d.log.length lc :: stL d.whole wo wc
def diffC (d : DiffV) (lo : Option Addr) (lc : Nat) (wo : Option Addr) (wc : Nat) : Array Value := (diffL d lo lc wo wc).toArray
def diff0 : DiffV := ⟨0, 0, [], st0⟩

/-- A state started at another time. -/
def startAt (s : StV) (n : Nat) : StV := ⟨n, s.base, s.tail, s.log⟩
def hasPosM (s : StV) (p : EntV) : Bool := (findM s p.n).2 && same tEnt p (posE (findM s p.n).1)
def throughM (a b : StV) : Bool := (same tEnt b.tail a.tail || hasPosM a b.tail) && ((uptoM a b.tail.n).2 && same tBase (uptoM a b.tail.n).1 b.base)
def hasEnt (a : StV) (e : EntV) : Bool := (findM a e.n).2 && same tEnt (findM a e.n).1 e
def sharedN (a : StV) : List EntV → Nat
  | [] => 0
  | e :: l => if hasEnt a e = true then sharedN a l + 1 else 0
def endsM (s : StV) : StV := ⟨s.started, base0, s.tail, []⟩
def makeM (a b : StV) : DiffV :=
  if isSt a = false ∨ isSt b = false then diff0
  else if same tSt (startAt a b.started) b = true then ⟨0, 0, [], endsM b⟩
  else if throughM a b = true then ⟨1, b.tail.n + sharedN a b.log, b.log.drop (sharedN a b.log), endsM b⟩
  else ⟨2, 0, [], b⟩

def addTo (p : StV × Nat) (e : EntV) : StV × Nat := if p.2 = 0 then addM p.1 e else p
def rewM (s : StV) (n : Nat) (l : List EntV) : StV × Nat := l.foldl addTo (cutM s n)
def endedM (s w : StV) : StV × Bool := (startAt (tailM s w.tail.n).1 w.started, decide ((tailM s w.tail.n).2 = 0) && decide ((tailM s w.tail.n).1.tail.since = w.tail.since))
def bareM (d : DiffV) : Bool := decide (d.log.length = 0) && decide (d.fr = 0)
def turnedM (s : StV) (d : DiffV) : StV × Bool :=
  if d.kind = 0 then ((endedM s d.whole).1, (endedM s d.whole).2 && bareM d)
  else if d.kind = 1 then (if (rewM s d.fr d.log).2 = 0 then endedM (rewM s d.fr d.log).1 d.whole else (st0, false))
  else if d.kind = 2 then (d.whole, bareM d)
  else (st0, false)
def applySt (s : StV) (d : DiffV) : StV × Nat := if isSt s = true ∧ (turnedM s d).2 = true ∧ isSt (turnedM s d).1 = true then ((turnedM s d).1, 0) else (st0, 80)
def extendsM (a b : StV) : Bool :=
  (isSt a && isSt b) && (decide ((headE a).n ≤ (headE b).n) && (decide ((makeM a b).kind = 0) || (decide ((makeM a b).kind = 1) && decide ((makeM a b).fr = (headE a).n))))
def theres (b : BaseV) : Nat → Nat
  | 0 => 0
  | n + 1 => theres b n + (if h : n < 6 then (if (b.obj ⟨n, h⟩).there = true then 1 else 0) else 0)
def bytesM (d : DiffV) : Nat := d.log.length + d.whole.log.length + theres d.whole.base 6

theorem foldK_zero (s : StV) : foldK s 0 = s := rfl
theorem foldK_two (s : StV) (j i : Nat) : foldK (foldK s j) i = foldK s (j + i) := by
  have e1 : s.log.take (j + i) = s.log.take j ++ (s.log.drop j).take i := by rw [List.take_add]
  unfold foldK
  congr 1
  · rw [e1, done_app]
  · rw [e1, lastE_app]
  · rw [List.drop_drop]
theorem reach_ok {s : StV} {n : Nat} (hs : isSt s = true) (h1 : s.tail.n ≤ n) (h2 : n ≤ s.tail.n + s.log.length) : reachM s n = (n - s.tail.n, 0) := by
  have hc := ((is_is s).1 hs).2.2.2.2
  have hn : (headE s).n = s.tail.n + s.log.length := chain_n _ _ hc
  unfold reachM
  rw [if_neg (by rw [hs]; simp), if_neg (by omega), if_neg (by omega)]
theorem head_num {s : StV} (hs : isSt s = true) : (headE s).n = s.tail.n + s.log.length := chain_n _ _ ((is_is s).1 hs).2.2.2.2
theorem reach_ins {s : StV} {n : Nat} (h : (reachM s n).2 = 0) : isSt s = true ∧ s.tail.n ≤ n ∧ n ≤ s.tail.n + s.log.length ∧ (reachM s n).1 = n - s.tail.n := by
  have h0 := h
  unfold reachM at h
  split at h
  · cases h
  · rename_i hi
    have hs : isSt s = true := by cases hq : isSt s with
      | true => rfl
      | false => exact absurd hq hi
    have hn := head_num hs
    split at h
    · cases h
    · split at h
      · cases h
      · refine ⟨hs, by omega, by omega, ?_⟩
        rw [reach_ok hs (by omega) (by omega)]
theorem tailM_ok {s : StV} {n : Nat} (hs : isSt s = true) (h1 : s.tail.n ≤ n) (h2 : n ≤ s.tail.n + s.log.length) : tailM s n = (foldK s (n - s.tail.n), 0) := by
  unfold tailM
  rw [reach_ok hs h1 h2, if_pos rfl]
theorem cutM_ok {s : StV} {n : Nat} (hs : isSt s = true) (h1 : s.tail.n ≤ n) (h2 : n ≤ s.tail.n + s.log.length) : cutM s n = (withLog s (s.log.take (n - s.tail.n)), 0) := by
  unfold cutM
  rw [reach_ok hs h1 h2, if_pos rfl]
theorem uptoM_ok {s : StV} {n : Nat} (hs : isSt s = true) (h1 : s.tail.n ≤ n) (h2 : n ≤ s.tail.n + s.log.length) : uptoM s n = (doneM s.base (s.log.take (n - s.tail.n)), true) := by
  unfold uptoM
  rw [reach_ok hs h1 h2, if_pos rfl]
theorem findM_ok {s : StV} {k : Nat} (hs : isSt s = true) (hk : k < s.log.length) : findM s (s.tail.n + k + 1) = (s.log[k], true) := by
  have hr := reach_ok (s := s) (n := s.tail.n + k + 1) hs (by omega) (by omega)
  unfold findM
  rw [hr, if_pos ⟨rfl, by show s.tail.n + k + 1 - s.tail.n ≠ 0; omega⟩]
  show (s.log.getD (s.tail.n + k + 1 - s.tail.n - 1) ent0, true) = _
  rw [show s.tail.n + k + 1 - s.tail.n - 1 = k by omega, List.getD_eq_getElem?_getD, List.getElem?_eq_getElem hk]
  rfl
theorem findM_in {s : StV} {n : Nat} (h : (findM s n).2 = true) : isSt s = true ∧ ∃ k, ∃ hk : k < s.log.length, n = s.tail.n + k + 1 ∧ (findM s n).1 = s.log[k] := by
  have h0 := h
  unfold findM at h
  split at h
  · rename_i hr
    obtain ⟨hs, h1, h2, h3⟩ := reach_ins hr.1
    have h4 := hr.2
    rw [h3] at h4
    have hk : n - s.tail.n - 1 < s.log.length := by omega
    have hn : n = s.tail.n + (n - s.tail.n - 1) + 1 := by omega
    refine ⟨hs, n - s.tail.n - 1, hk, hn, ?_⟩
    have := findM_ok hs hk
    rw [← hn] at this
    rw [this]
  · cases h
/-- An entry's number tells its place. -/
theorem chain_nth {p : EntV} {l : List EntV} (h : chainM p l = true) (k : Nat) (hk : k < l.length) : l[k].n = p.n + k + 1 := by
  induction l generalizing p k with
  | nil => cases hk
  | cons x l ih =>
    have h' : (followsM p x && chainM (posE x) l) = true := h
    rw [Bool.and_eq_true] at h'
    have h1 := (follows_is.1 h'.1).2.1
    cases k with
    | zero => show x.n = _; omega
    | succ k =>
      have hk' : k < l.length := by simpa using hk
      have := ih h'.2 k hk'
      have e : (posE x).n = x.n := rfl
      show l[k].n = _
      omega

theorem lastE_take {t : EntV} {l : List EntV} {k : Nat} (hk : k < l.length) : lastE t (l.take (k + 1)) = posE l[k] := by
  rw [List.take_succ_eq_append_getElem hk, lastE_snoc]

/-- What 'through' says: the list goes on at a place of the other one's. -/
theorem through_is {a b : StV} (hb : isSt b = true) (h : throughM a b = true) : isSt a = true ∧ ∃ m, m ≤ a.log.length ∧ b.tail.n = a.tail.n + m ∧ b.base = doneM a.base (a.log.take m) ∧ b.tail = lastE a.tail (a.log.take m) := by
  unfold throughM at h
  simp only [Bool.and_eq_true, Bool.or_eq_true, same_is] at h
  obtain ⟨h1, h2, h3⟩ := h
  have hr : (reachM a b.tail.n).2 = 0 := by
    by_cases hq : (reachM a b.tail.n).2 = 0
    · exact hq
    · unfold uptoM at h2
      rw [if_neg hq] at h2
      cases h2
  obtain ⟨hs, i1, i2, i3⟩ := reach_ins hr
  refine ⟨hs, b.tail.n - a.tail.n, by omega, by omega, ?_, ?_⟩
  · rw [← h3, uptoM_ok hs i1 i2]
  · rcases h1 with h1 | h1
    · have e : b.tail.n - a.tail.n = 0 := by rw [h1]; omega
      rw [e, List.take_zero, h1]
      rfl
    · unfold hasPosM at h1
      rw [Bool.and_eq_true, same_is] at h1
      obtain ⟨_, k, hk, hn, hf⟩ := findM_in h1.1
      rw [hf] at h1
      rw [show b.tail.n - a.tail.n = k + 1 by omega, lastE_take hk]
      exact h1.2
theorem through_of {a b : StV} {m : Nat} (ha : isSt a = true) (hm : m ≤ a.log.length) (hn : b.tail.n = a.tail.n + m) (h1 : b.base = doneM a.base (a.log.take m)) (h2 : b.tail = lastE a.tail (a.log.take m)) : throughM a b = true := by
  unfold throughM
  simp only [Bool.and_eq_true, Bool.or_eq_true, same_is]
  have hu := uptoM_ok (s := a) (n := b.tail.n) ha (by omega) (by omega)
  rw [hu, show b.tail.n - a.tail.n = m by omega]
  refine ⟨?_, rfl, h1.symm⟩
  cases m with
  | zero => rw [List.take_zero] at h2; exact .inl h2
  | succ k =>
    have hk : k < a.log.length := by omega
    have hf := findM_ok ha hk
    rw [show a.tail.n + k + 1 = b.tail.n by omega] at hf
    refine .inr ?_
    unfold hasPosM
    rw [hf, Bool.and_eq_true, same_is]
    exact ⟨rfl, by rw [h2, lastE_take hk]⟩

theorem hasEnt_is {a : StV} {e : EntV} (ha : isSt a = true) : hasEnt a e = true ↔ ∃ k, ∃ hk : k < a.log.length, e.n = a.tail.n + k + 1 ∧ a.log[k] = e := by
  unfold hasEnt
  rw [Bool.and_eq_true, same_is]
  constructor
  · rintro ⟨h1, h2⟩
    obtain ⟨_, k, hk, hn, hf⟩ := findM_in h1
    exact ⟨k, hk, hn, by rw [← hf]; exact h2⟩
  · rintro ⟨k, hk, hn, he⟩
    rw [hn, findM_ok ha hk]
    exact ⟨rfl, he⟩
theorem shared_le (a : StV) (l : List EntV) : sharedN a l ≤ l.length := by
  induction l with
  | nil => exact Nat.le_refl _
  | cons e l ih =>
    show (if hasEnt a e = true then sharedN a l + 1 else 0) ≤ _
    rw [List.length_cons]
    split <;> omega
/-- The entries that are shared lie behind one another in the other one's log. -/
theorem shared_is {a : StV} (ha : isSt a = true) (l : List EntV) (m : Nat) (p : EntV) (hp : p.n = a.tail.n + m) (hc : chainM p l = true) (hm : m ≤ a.log.length) :
    m + sharedN a l ≤ a.log.length ∧ a.log.take (m + sharedN a l) = a.log.take m ++ l.take (sharedN a l) := by
  induction l generalizing m p with
  | nil =>
    show m + 0 ≤ _ ∧ a.log.take (m + 0) = _ ++ List.take 0 []
    simp [hm]
  | cons e l ih =>
    have h' : (followsM p e && chainM (posE e) l) = true := hc
    rw [Bool.and_eq_true] at h'
    have h1 := (follows_is.1 h'.1).2.1
    by_cases hq : hasEnt a e = true
    · obtain ⟨k, hk, hn, he⟩ := (hasEnt_is ha).1 hq
      have e1 : sharedN a (e :: l) = sharedN a l + 1 := by show (if hasEnt a e = true then _ else _) = _; rw [if_pos hq]
      have ek : k = m := by omega
      subst ek
      have h2 := ih (k + 1) (posE e) (by show e.n = _; omega) h'.2 (by omega)
      rw [e1]
      refine ⟨by omega, ?_⟩
      rw [show k + (sharedN a l + 1) = k + 1 + sharedN a l by omega, h2.2, List.take_succ_eq_append_getElem hk, he, List.append_assoc]
      rfl
    · have e1 : sharedN a (e :: l) = 0 := by show (if hasEnt a e = true then _ else _) = _; rw [if_neg hq]
      rw [e1]
      simp [hm]
/-- So many are shared at the least. -/
theorem shared_ge {a : StV} (ha : isSt a = true) (l : List EntV) (m k : Nat) (p : EntV) (hp : p.n = a.tail.n + m) (hc : chainM p l = true) (hk : k ≤ l.length) (hm : m + k ≤ a.log.length) (he : (a.log.drop m).take k = l.take k) : k ≤ sharedN a l := by
  induction l generalizing m p k with
  | nil => exact hk
  | cons e l ih =>
    cases k with
    | zero => exact Nat.zero_le _
    | succ k =>
      have h' : (followsM p e && chainM (posE e) l) = true := hc
      rw [Bool.and_eq_true] at h'
      have h1 := (follows_is.1 h'.1).2.1
      have hlt : m < a.log.length := by omega
      rw [List.drop_eq_getElem_cons hlt, List.take_succ_cons, List.take_succ_cons, List.cons.injEq] at he
      have hq : hasEnt a e = true := (hasEnt_is ha).2 ⟨m, hlt, by omega, he.1⟩
      have h2 := ih (m + 1) k (posE e) (by show e.n = _; omega) h'.2 (by simpa using hk) (by omega) he.2
      show _ ≤ (if hasEnt a e = true then _ else _)
      rw [if_pos hq]
      omega

theorem withLog_is {s : StV} {l : List EntV} (hs : isSt s = true) (hl : l.length ≤ 6) (hc : chainM s.tail l = true) : isSt (withLog s l) = true := by
  have h := (is_is s).1 hs
  rw [is_is]
  exact ⟨h.1, h.2.1, h.2.2.1, hl, hc⟩
/-- Entries that can come, one by one. -/
theorem add_many (X : StV) (h0 : X.started ≤ 60) (h1 : isTailM X.tail = true) (h2 : isBaseM X.base = true) (A l : List EntV) (hA : A.length ≤ 6) (hc : chainM X.tail (A ++ l) = true) :
    l.foldl addTo (withLog X A, 0) = (foldK (withLog X (A ++ l)) (A.length + l.length - 6), 0) := by
  induction l using snoc_ind with
  | h0 =>
    rw [List.append_nil, List.length_nil, Nat.add_zero, show A.length - 6 = 0 by omega]
    rfl
  | h1 l e ih =>
    rw [← List.append_assoc, chain_snoc, Bool.and_eq_true] at hc
    rw [List.foldl_append, ih hc.1]
    show addTo (_, 0) e = _
    unfold addTo
    rw [if_pos rfl]
    have hlen : (A ++ l).length = A.length + l.length := List.length_append
    generalize hj : A.length + l.length - 6 = j at *
    have hi : isSt (foldK (withLog X (A ++ l)) j) = true := foldK_is h0 h1 h2 hc.1 (by show (A ++ l).length - j ≤ 6; omega)
    have hh : headE (foldK (withLog X (A ++ l)) j) = lastE X.tail (A ++ l) := foldK_head _ _
    rw [add_yes (can_is.2 ⟨hi, by rw [hh]; exact hc.2⟩)]
    have hl : (foldK (withLog X (A ++ l)) j).log = (A ++ l).drop j := rfl
    have e1 : withLog (foldK (withLog X (A ++ l)) j) ((A ++ l).drop j ++ [e]) = foldK (withLog X (A ++ (l ++ [e]))) j := by
      rw [← List.append_assoc]
      unfold foldK withLog
      show StV.mk _ _ _ _ = StV.mk _ _ _ _
      have t1 : ((A ++ l) ++ [e]).take j = (A ++ l).take j := List.take_append_of_le_length (by omega)
      have t2 : ((A ++ l) ++ [e]).drop j = (A ++ l).drop j ++ [e] := List.drop_append_of_le_length (by omega)
      show StV.mk _ _ _ _ = StV.mk _ _ _ _
      simp only [t1, t2]
    rw [hl, e1, foldK_two]
    congr 2
    have hle : (l ++ [e]).length = l.length + 1 := by rw [List.length_append]; rfl
    rw [List.length_drop, hle, hlen]
    omega

/-- P8.4. -/
theorem apply_make {a b : StV} (ha : isSt a = true) (hb : isSt b = true) : applySt a (makeM a b) = (b, 0) := by
  have hn : ¬ (isSt a = false ∨ isSt b = false) := by rw [ha, hb]; simp
  have hI := (is_is b).1 hb
  have hIa := (is_is a).1 ha
  have fin : ∀ d : DiffV, (turnedM a d) = (b, true) → applySt a d = (b, 0) := fun d h => by
    unfold applySt
    rw [h, if_pos ⟨ha, rfl, hb⟩]
  refine fin _ ?_
  unfold makeM
  rw [if_neg hn]
  split
  · rename_i h0
    rw [same_is] at h0
    have e1 : (startAt a b.started).tail = b.tail := by rw [h0]
    have e1 : a.tail = b.tail := e1
    unfold turnedM
    rw [if_pos rfl]
    have ht : tailM a b.tail.n = (a, 0) := by rw [tailM_ok ha (by rw [e1]; omega) (by rw [e1]; omega), e1, Nat.sub_self]; rfl
    have he : endedM a (endsM b) = (b, true) := by
      unfold endedM
      show (startAt (tailM a b.tail.n).1 b.started, decide ((tailM a b.tail.n).2 = 0) && decide ((tailM a b.tail.n).1.tail.since = b.tail.since)) = _
      rw [ht]
      show (startAt a b.started, (decide (0 = 0) && decide (a.tail.since = b.tail.since))) = _
      rw [h0, e1]
      simp
    show ((endedM a (endsM b)).1, (endedM a (endsM b)).2 && _) = _
    rw [he]
    rfl
  · split
    · rename_i hth
      obtain ⟨_, m, hm, hbn, hbb, hbt⟩ := through_is hb hth
      obtain ⟨hk1, hk2⟩ := shared_is ha b.log m b.tail hbn hI.2.2.2.2 hm
      have hk3 := shared_le a b.log
      unfold turnedM
      rw [if_neg (by show ¬ (1 : Int) = 0; decide), if_pos rfl]
      generalize sharedN a b.log = k at *
      have hcut : cutM a (b.tail.n + k) = (withLog a (a.log.take (m + k)), 0) := by
        rw [cutM_ok ha (by omega) (by omega), show b.tail.n + k - a.tail.n = m + k by omega]
      have hsum : a.log.take m ++ b.log.take k ++ b.log.drop k = a.log.take m ++ b.log := by rw [List.append_assoc, List.take_append_drop]
      have hchain : chainM a.tail (a.log.take m ++ b.log) = true := by
        rw [chain_app, Bool.and_eq_true, ← hbt]
        refine ⟨?_, hI.2.2.2.2⟩
        have : chainM a.tail (a.log.take m ++ a.log.drop m) = true := by rw [List.take_append_drop]; exact hIa.2.2.2.2
        rw [chain_app, Bool.and_eq_true] at this
        exact this.1
      have hl1 : (a.log.take m ++ b.log.take k).length = m + k := by rw [← hk2, List.length_take]; omega
      have hl2 : (a.log.take m).length = m := by rw [List.length_take]; omega
      have ha6 := hIa.2.2.2.1
      have hb6 := hI.2.2.2.1
      have hadd := add_many a hIa.1 hIa.2.1 hIa.2.2.1 (a.log.take m ++ b.log.take k) (b.log.drop k) (by omega) (by rw [hsum]; exact hchain)
      rw [hsum, hl1, List.length_drop, show m + k + (b.log.length - k) - 6 = m + b.log.length - 6 by omega] at hadd
      have hrew : rewM a (b.tail.n + k) (b.log.drop k) = (foldK (withLog a (a.log.take m ++ b.log)) (m + b.log.length - 6), 0) := by
        unfold rewM
        rw [hcut, hk2]
        exact hadd
      show (if (rewM a (b.tail.n + k) (b.log.drop k)).2 = 0 then endedM (rewM a (b.tail.n + k) (b.log.drop k)).1 (endsM b) else (st0, false)) = _
      rw [hrew, if_pos rfl]
      have hlen : (withLog a (a.log.take m ++ b.log)).log.length = m + b.log.length := by show (a.log.take m ++ b.log).length = _; rw [List.length_append, hl2]
      have hj : m + b.log.length - 6 ≤ m := by omega
      have hj6 : m + b.log.length - (m + b.log.length - 6) ≤ 6 := by omega
      generalize m + b.log.length - 6 = j at *
      have hF : isSt (foldK (withLog a (a.log.take m ++ b.log)) j) = true := foldK_is hIa.1 hIa.2.1 hIa.2.2.1 hchain (by rw [hlen]; omega)
      have hFn : (foldK (withLog a (a.log.take m ++ b.log)) j).tail.n = a.tail.n + j := by
        show (lastE a.tail ((a.log.take m ++ b.log).take j)).n = _
        have hc2 : chainM a.tail ((a.log.take m ++ b.log).take j ++ (a.log.take m ++ b.log).drop j) = true := by rw [List.take_append_drop]; exact hchain
        rw [chain_app, Bool.and_eq_true] at hc2
        rw [chain_n _ _ hc2.1, List.length_take, List.length_append, hl2]
        omega
      have hFl : (foldK (withLog a (a.log.take m ++ b.log)) j).log.length = m + b.log.length - j := by
        show ((a.log.take m ++ b.log).drop j).length = _
        rw [List.length_drop, List.length_append, hl2]
      have ht : tailM (foldK (withLog a (a.log.take m ++ b.log)) j) b.tail.n = (startAt b a.started, 0) := by
        rw [tailM_ok hF (by omega) (by omega), hFn, foldK_two, show j + (b.tail.n - (a.tail.n + j)) = m by omega]
        have t1 : (a.log.take m ++ b.log).take m = a.log.take m := by
          have := List.take_left (l₁ := a.log.take m) (l₂ := b.log)
          rw [hl2] at this
          exact this
        have t2 : (a.log.take m ++ b.log).drop m = b.log := by
          have := List.drop_left (l₁ := a.log.take m) (l₂ := b.log)
          rw [hl2] at this
          exact this
        unfold foldK startAt withLog
        show (StV.mk a.started (doneM a.base ((a.log.take m ++ b.log).take m)) (lastE a.tail ((a.log.take m ++ b.log).take m)) ((a.log.take m ++ b.log).drop m), 0) = _
        rw [t1, t2, ← hbb, ← hbt]
      unfold endedM
      show (startAt (tailM _ b.tail.n).1 b.started, decide ((tailM _ b.tail.n).2 = 0) && decide ((tailM _ b.tail.n).1.tail.since = b.tail.since)) = _
      rw [ht]
      show (startAt (startAt b a.started) b.started, (decide (0 = 0) && decide (b.tail.since = b.tail.since))) = _
      simp [startAt]
    · unfold turnedM bareM
      rw [if_neg (by show ¬ (2 : Int) = 0; decide), if_neg (by show ¬ (2 : Int) = 1; decide), if_pos rfl]
      simp
end Go.Proofs.YtecilienolabfaaGreatDoor
