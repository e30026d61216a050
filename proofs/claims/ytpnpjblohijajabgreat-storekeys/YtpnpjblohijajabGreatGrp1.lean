/- JnlMath, joined. -/
import Derived.Test.YtpnpjblohijajabGreatPackStraw
namespace Go.Proofs.YtpnpjblohijajabGreat
section
set_option linter.unusedSimpArgs false
set_option linter.unusedVariables false
open Go.RowKit

/-! ### Sectors -/
def sec (D : List UInt8) (i : Nat) : List UInt8 := (D.drop (64 * i)).take 64
theorem sec_at (D : List UInt8) (i j : Nat) (h : j < 64) : (sec D i)[j]? = D[64 * i + j]? := by
  unfold sec
  rw [List.getElem?_take, if_pos h, List.getElem?_drop]
theorem sec_length {D : List UInt8} {n i : Nat} (hD : D.length = 64 * n) (h : i < n) : (sec D i).length = 64 := by
  unfold sec
  rw [List.length_take, List.length_drop]
  omega
theorem sec_off {D : List UInt8} {n j : Nat} (hj : j < 64 * n) : D[j]? = (sec D (j / 64))[j % 64]? := by
  rw [sec_at _ _ _ (Nat.mod_lt _ (by decide))]
  congr 1
  omega
theorem cut_congr {D E : List UInt8} (a k : Nat) (h : ∀ j, a ≤ j → j < a + k → D[j]? = E[j]?) : (D.drop a).take k = (E.drop a).take k := by
  refine List.ext_getElem? fun i => ?_
  rw [List.getElem?_take, List.getElem?_take]
  by_cases hi : i < k
  · rw [if_pos hi, if_pos hi, List.getElem?_drop, List.getElem?_drop]
    exact h _ (by omega) (by omega)
  · rw [if_neg hi, if_neg hi]

/-- What is kept of a disk whose pending sectors are these, behind whatever happens to each. -/
structure Torn (n : Nat) (D : List UInt8) (l : List (Nat × List UInt8)) (D' : List UInt8) : Prop where
  len : D'.length = 64 * n
  same : ∀ i, i < n → (∀ s, (i, s) ∉ l) → sec D' i = sec D i
  tear : ∀ i s, (i, s) ∈ l → ∃ k, k ≤ 64 ∧ sec D' i = s.take k ++ (sec D i).drop k
/-- All of them are kept. -/
structure Full (n : Nat) (D : List UInt8) (l : List (Nat × List UInt8)) (D' : List UInt8) : Prop where
  len : D'.length = 64 * n
  same : ∀ i, i < n → (∀ s, (i, s) ∉ l) → sec D' i = sec D i
  full : ∀ i s, (i, s) ∈ l → sec D' i = s
theorem sec_ext {n : Nat} {D E : List UInt8} (h1 : D.length = 64 * n) (h2 : E.length = 64 * n) (h : ∀ i, i < n → sec D i = sec E i) : D = E := by
  refine List.ext_getElem? fun j => ?_
  by_cases hj : j < 64 * n
  · rw [sec_off hj, sec_off (D := E) hj, h _ (by omega)]
  · rw [List.getElem?_eq_none (by omega), List.getElem?_eq_none (by omega)]
theorem Torn.nil {n : Nat} {D D' : List UInt8} (hD : D.length = 64 * n) (h : Torn n D [] D') : D' = D :=
  sec_ext h.len hD fun i hi => h.same i hi (fun s hs => by cases hs)

/-! ### Headers -/
structure HdV where
  num : Nat
  half : Nat
  len : Nat
  sum : Nat
def hd0 : HdV := ⟨0, 0, 0, 0⟩
structure HdOk (h : HdV) : Prop where
  num : h.num < 18446744073709551616
  half : h.half < 256
  len : h.len < 4294967296
  sum : h.sum < 18446744073709551616
theorem HdV.ext' {a b : HdV} (h1 : a.num = b.num) (h2 : a.half = b.half) (h3 : a.len = b.len) (h4 : a.sum = b.sum) : a = b := by
  cases a; cases b; simp_all
def markB : List UInt8 := [112, 97, 100, 100, 111, 99, 107, 32, 106, 111, 117, 114, 110, 97, 108]
def hdT (h : HdV) : List UInt8 := putB h.num 8 ++ (putB h.half 1 ++ (putB h.len 4 ++ (putB h.sum 8 ++ putB h.num 8)))
def hdB (h : HdV) : List UInt8 := markB ++ hdT h
theorem hdT_length (h : HdV) : (hdT h).length = 29 := by unfold hdT; simp only [List.length_append, putB_length]
theorem hdB_length (h : HdV) : (hdB h).length = 44 := by unfold hdB; rw [List.length_append, hdT_length]; rfl
def rdHd (b : List UInt8) : HdV := ⟨getN ((b.drop 15).take 8), getN ((b.drop 23).take 1), getN ((b.drop 24).take 4), getN ((b.drop 28).take 8)⟩
def isHd (b : List UInt8) : Bool := b.take 44 == hdB (rdHd b)
theorem putB_getN (k : Nat) (hk : k ≤ 8) : ∀ (l : List UInt8), l.length = k → putB (getN l) k = l := by
  induction k with
  | zero => intro l hl; rw [List.eq_nil_of_length_eq_zero hl]; rfl
  | succ k ih =>
    intro l hl
    obtain ⟨l', c, rfl⟩ : ∃ l' c, l = l' ++ [c] := by
      rcases List.eq_nil_or_concat l with rfl | ⟨l', c, rfl⟩
      · cases hl
      · exact ⟨l', c, by rw [List.concat_eq_append]⟩
    rw [List.length_append] at hl
    have hl' : l'.length = k := by simpa using hl
    have e := ih (by omega) l' hl'
    have hlt : getN l' < 256 ^ k := by
      have g := get_put k (getN l') (by omega)
      rw [e] at g
      rw [g]
      exact Nat.mod_lt _ (Nat.pow_pos (by decide))
    have h64 : 256 ^ k * 256 ≤ 18446744073709551616 := by
      rw [← Nat.pow_succ]
      have := Nat.pow_le_pow_right (n := 256) (by decide) hk
      exact Nat.le_trans this (by decide)
    have hc : c.toNat < 256 := c.toNat_lt
    rw [getN_snoc, Nat.mod_eq_of_lt (by omega), putB_succ]
    have e1 : (getN l' * 256 + c.toNat) / 256 = getN l' := by omega
    rw [e1, e]
    congr 2
    have e2 : UInt8.ofNat (getN l' * 256 + c.toNat) = UInt8.ofNat c.toNat := UInt8.toNat_inj.1 (by rw [UInt8.toNat_ofNat', UInt8.toNat_ofNat']; omega)
    rw [e2, UInt8.ofNat_toNat]
theorem take_app {α : Type} {a b : List α} {k : Nat} (h : a.length = k) : (a ++ b).take k = a := by subst h; simp
theorem drop_app {α : Type} {a b : List α} {k m : Nat} (h : a.length = k) (hm : k ≤ m) : (a ++ b).drop m = b.drop (m - k) := by
  subst h
  rw [List.drop_append, List.drop_of_length_le hm, List.nil_append]
theorem hd_cut (h : HdV) (r : List UInt8) : ((hdB h ++ r).drop 15).take 8 = putB h.num 8 ∧ ((hdB h ++ r).drop 23).take 1 = putB h.half 1 ∧ ((hdB h ++ r).drop 24).take 4 = putB h.len 4 ∧ ((hdB h ++ r).drop 28).take 8 = putB h.sum 8 ∧ ((hdB h ++ r).drop 36).take 8 = putB h.num 8 := by
  have hm : markB.length = 15 := rfl
  unfold hdB hdT
  simp only [List.append_assoc]
  refine ⟨?_, ?_, ?_, ?_, ?_⟩
  · rw [drop_app hm (by omega)]; exact take_app (putB_length _ _)
  · rw [drop_app hm (by omega), drop_app (putB_length _ _) (by omega)]; exact take_app (putB_length _ _)
  · rw [drop_app hm (by omega), drop_app (putB_length _ _) (by omega), drop_app (putB_length _ _) (by omega)]; exact take_app (putB_length _ _)
  · rw [drop_app hm (by omega), drop_app (putB_length _ _) (by omega), drop_app (putB_length _ _) (by omega), drop_app (putB_length _ _) (by omega)]; exact take_app (putB_length _ _)
  · rw [drop_app hm (by omega), drop_app (putB_length _ _) (by omega), drop_app (putB_length _ _) (by omega), drop_app (putB_length _ _) (by omega), drop_app (putB_length _ _) (by omega)]; exact take_app (putB_length _ _)
theorem rd_hd (h : HdV) (ok : HdOk h) (r : List UInt8) : rdHd (hdB h ++ r) = h := by
  obtain ⟨e1, e2, e3, e4, _⟩ := hd_cut h r
  obtain ⟨o1, o2, o3, o4⟩ := ok
  have p8 : (256 : Nat) ^ 8 = 18446744073709551616 := by decide
  have p4 : (256 : Nat) ^ 4 = 4294967296 := by decide
  have p1 : (256 : Nat) ^ 1 = 256 := by decide
  refine HdV.ext' ?_ ?_ ?_ ?_
  · show getN _ = _; rw [e1, get_put 8 _ (by decide), p8, Nat.mod_eq_of_lt o1]
  · show getN _ = _; rw [e2, get_put 1 _ (by decide), p1, Nat.mod_eq_of_lt o2]
  · show getN _ = _; rw [e3, get_put 4 _ (by decide), p4, Nat.mod_eq_of_lt o3]
  · show getN _ = _; rw [e4, get_put 8 _ (by decide), p8, Nat.mod_eq_of_lt o4]
theorem is_hd (h : HdV) (ok : HdOk h) (r : List UInt8) : isHd (hdB h ++ r) = true := by
  unfold isHd
  rw [rd_hd h ok r, take_app (hdB_length h), beq_self_eq_true]
theorem hd_split {b : List UInt8} {h : HdV} (e : b.take 44 = hdB h) : b = hdB h ++ b.drop 44 := by rw [← e, List.take_append_drop]
/-- An older header's number stands at the end of what one reads, or nothing at all. -/
def Stale (b : List UInt8) (N : Nat) : Prop := ∃ m, m < N ∧ (b.drop 36).take 8 = putB m 8
theorem Stale.num {b : List UInt8} {N : Nat} (h : Stale b N) (hN : N ≤ 256) (hi : isHd b = true) : (rdHd b).num < N := by
  obtain ⟨m, hm, e⟩ := h
  unfold isHd at hi
  rw [beq_iff_eq] at hi
  have hs := hd_split hi
  have e5 := (hd_cut (rdHd b) (b.drop 44)).2.2.2.2
  rw [← hs, e] at e5
  have p8 : (256 : Nat) ^ 8 = 18446744073709551616 := by decide
  have e6 := congrArg getN e5
  have hlt : (rdHd b).num < 18446744073709551616 := getN_lt _
  rw [get_put 8 _ (by decide), get_put 8 _ (by decide), p8, Nat.mod_eq_of_lt (by omega), Nat.mod_eq_of_lt hlt] at e6
  omega
theorem Stale.more {b : List UInt8} {N M : Nat} (h : Stale b N) (hM : N ≤ M) : Stale b M := by
  obtain ⟨m, hm, e⟩ := h
  exact ⟨m, by omega, e⟩
theorem stale_hd (h : HdV) (r : List UInt8) : Stale (hdB h ++ r) (h.num + 1) := ⟨h.num, by omega, (hd_cut h r).2.2.2.2⟩
theorem putB_small {n : Nat} (h : n < 256) : putB n 8 = [0, 0, 0, 0, 0, 0, 0, UInt8.ofNat n] := by
  have e : putB n 8 = [UInt8.ofNat (n / 72057594037927936), UInt8.ofNat (n / 281474976710656), UInt8.ofNat (n / 1099511627776), UInt8.ofNat (n / 4294967296), UInt8.ofNat (n / 16777216), UInt8.ofNat (n / 65536), UInt8.ofNat (n / 256), UInt8.ofNat (n / 1)] := rfl
  rw [e, Nat.div_eq_of_lt (by omega), Nat.div_eq_of_lt (by omega), Nat.div_eq_of_lt (by omega), Nat.div_eq_of_lt (by omega), Nat.div_eq_of_lt (by omega), Nat.div_eq_of_lt (by omega), Nat.div_eq_of_lt (by omega), Nat.div_one]
  rfl
theorem small_take {n m k : Nat} (hn : n < 256) (hm : m < 256) (hk : k < 8) : (putB n 8).take k = (putB m 8).take k := by
  rw [putB_small hn, putB_small hm]
  match k, hk with
  | 0, _ => rfl
  | 1, _ => rfl
  | 2, _ => rfl
  | 3, _ => rfl
  | 4, _ => rfl
  | 5, _ => rfl
  | 6, _ => rfl
  | 7, _ => rfl
/-- A header that was torn: what one reads is older still. -/
theorem stale_torn {X : List UInt8} {N c : Nat} {h : HdV} (hX : X.length = 64) (hs : Stale X N) (hN : N ≤ 256) (hh : h.num < 256) (hc : c < 44) : Stale ((hdB h ++ X.drop 44).take c ++ X.drop c) N := by
  obtain ⟨m, hm, e⟩ := hs
  refine ⟨m, hm, ?_⟩
  have hl : ((hdB h ++ X.drop 44).take c).length = c := by
    rw [List.length_take, List.length_append, hdB_length, List.length_drop]; omega
  by_cases h36 : c ≤ 36
  · rw [drop_app hl h36, List.drop_drop, show c + (36 - c) = 36 by omega]
    exact e
  · have e1 : ((hdB h ++ X.drop 44).take c ++ X.drop c).drop 36 = ((hdB h ++ X.drop 44).drop 36).take (c - 36) ++ (X.drop 36).drop (c - 36) := by
      rw [List.drop_append_of_le_length (by omega), List.drop_take, List.drop_drop, show 36 + (c - 36) = c by omega]
    have e2 : (hdB h ++ X.drop 44).drop 36 = putB h.num 8 ++ X.drop 44 := by
      have hm : markB.length = 15 := rfl
      unfold hdB hdT
      simp only [List.append_assoc]
      rw [drop_app hm (by omega), drop_app (putB_length _ _) (by omega), drop_app (putB_length _ _) (by omega), drop_app (putB_length _ _) (by omega), drop_app (putB_length _ _) (by omega)]
      rfl
    have e3 : (putB h.num 8 ++ X.drop 44).take (c - 36) = (putB m 8).take (c - 36) := by
      rw [List.take_append_of_le_length (by rw [putB_length]; omega), small_take hh (show m < 256 by omega) (by omega)]
    rw [e1, e2, e3]
    have hk : ((putB m 8).take (c - 36)).length = c - 36 := by rw [List.length_take, putB_length]; omega
    rw [List.take_append, List.take_of_length_le (by omega), hk, ← List.drop_take, e, List.take_append_drop]

/-! ### Records -/
def recB (s : List UInt8) : List UInt8 := putB s.length 2 ++ s
theorem recB_length (s : List UInt8) : (recB s).length = s.length + 2 := by unfold recB; rw [List.length_append, putB_length]; omega
def sheetB (l : List (List UInt8)) : List UInt8 := (l.map recB).flatten
theorem sheetB_nil : sheetB [] = [] := rfl
theorem sheetB_cons (s : List UInt8) (l : List (List UInt8)) : sheetB (s :: l) = recB s ++ sheetB l := rfl
theorem sheetB_app (l k : List (List UInt8)) : sheetB (l ++ k) = sheetB l ++ sheetB k := by unfold sheetB; rw [List.map_append, List.flatten_append]
def sumStepM (s : Nat) (r : List UInt8) : Nat := sumN (putB s 8 ++ recB r)
def sumM (s : Nat) (l : List (List UInt8)) : Nat := l.foldl sumStepM s
theorem sumM_cons (s : Nat) (r : List UInt8) (l : List (List UInt8)) : sumM s (r :: l) = sumM (sumStepM s r) l := by
  unfold sumM
  rw [List.foldl_cons]
theorem sumM_app (s : Nat) (l k : List (List UInt8)) : sumM s (l ++ k) = sumM (sumM s l) k := by
  unfold sumM
  rw [List.foldl_append]
def takenM (l : List (List UInt8)) : Nat := (l.map (fun r => r.length + 16)).sum
theorem takenM_app (l k : List (List UInt8)) : takenM (l ++ k) = takenM l + takenM k := by unfold takenM; rw [List.map_append, List.sum_append]
theorem sheet_taken : ∀ l, (sheetB l).length + 14 * l.length = takenM l
  | [] => rfl
  | s :: l => by
    have := sheet_taken l
    rw [sheetB_cons, List.length_append, recB_length]
    unfold takenM at *
    rw [List.map_cons, List.sum_cons, List.length_cons]
    omega
theorem sum_lt (l : List (List UInt8)) : ∀ (s : Nat), s < 18446744073709551616 → sumM s l < 18446744073709551616 := by
  induction l with
  | nil => intro s h; unfold sumM; exact h
  | cons r l ih =>
    intro s h
    rw [sumM_cons]
    exact ih _ (sumN_lt _)
def firstM (n half : Nat) : Nat := 2 + half * (n / 2 - 1)
def limitM (n : Nat) : Nat := 64 * (n / 2 - 4)
/-- A header with what it tells of one row of records more. -/
def withM (h : HdV) (r : List UInt8) : HdV := ⟨h.num, h.half, h.len + (r.length + 2), sumStepM h.sum r⟩
def withAll (h : HdV) (l : List (List UInt8)) : HdV := l.foldl withM h
theorem with_all (l : List (List UInt8)) (h : HdV) : withAll h l = ⟨h.num, h.half, h.len + (sheetB l).length, sumM h.sum l⟩ := by
  induction l generalizing h with
  | nil => cases h; rfl
  | cons r l ih =>
    show withAll (withM h r) l = _
    rw [ih]
    have e : h.len + (r.length + 2) + (sheetB l).length = h.len + (sheetB (r :: l)).length := by
      rw [sheetB_cons, List.length_append, recB_length]
      omega
    simp only [withM, sumM_cons, e]

/-! ### A disk that holds a journal -/
structure Good (n : Nat) (D : List UInt8) (h : HdV) (l : List (List UInt8)) : Prop where
  n0 : 8 ≤ n
  n1 : n ≤ 1000
  size : D.length = 64 * n
  num : h.num < 256
  half : h.half ≤ 1
  len : h.len = (sheetB l).length
  sum : h.sum = sumM 0 l
  slot : (D.drop (64 * (h.num % 2))).take 44 = hdB h
  stale : Stale (sec D ((h.num + 1) % 2)) h.num
  recs : (D.drop (64 * firstM n h.half)).take h.len = sheetB l
  each : ∀ r ∈ l, r.length ≤ 20000
  room : takenM l ≤ limitM n

theorem Good.fits {n : Nat} {D : List UInt8} {h : HdV} {l : List (List UInt8)} (g : Good n D h l) : h.len ≤ limitM n := by
  have := sheet_taken l
  have := g.room
  rw [g.len]
  omega
theorem first_in {n half k : Nat} (hn : 8 ≤ n) (hh : half ≤ 1) (hk : k ≤ limitM n) : 2 ≤ firstM n half ∧ 64 * firstM n half + k + 128 ≤ 64 * n := by
  unfold firstM limitM at *
  have : half = 0 ∨ half = 1 := by omega
  rcases this with rfl | rfl <;> omega
theorem Good.ok {n : Nat} {D : List UInt8} {h : HdV} {l : List (List UInt8)} (g : Good n D h l) : HdOk h :=
  ⟨by have := g.num; omega, by have := g.half; omega, by have := g.fits; have := g.n1; unfold limitM at *; omega, by rw [g.sum]; exact sum_lt _ _ (by decide)⟩
/-- What a journal's disk may turn in. -/
theorem Good.at {n : Nat} {D E : List UInt8} {h : HdV} {l : List (List UInt8)} (g : Good n D h l) (hE : E.length = 64 * n) (h0 : ∀ j, j < 128 → E[j]? = D[j]?) (h1 : ∀ j, 64 * firstM n h.half ≤ j → j < 64 * firstM n h.half + h.len → E[j]? = D[j]?) : Good n E h l := by
  refine ⟨g.n0, g.n1, hE, g.num, g.half, g.len, g.sum, ?_, ?_, ?_, g.each, g.room⟩
  · rw [← g.slot]
    exact cut_congr _ _ fun j a b => h0 j (by omega)
  · have e : sec E ((h.num + 1) % 2) = sec D ((h.num + 1) % 2) := cut_congr _ _ fun j a b => h0 j (by omega)
    rw [e]
    exact g.stale
  · rw [← g.recs]
    exact cut_congr _ _ fun j a b => h1 j a b
/-- What a row of pending sectors may turn. -/
theorem Torn.off {n : Nat} {D E : List UInt8} {p : List (Nat × List UInt8)} (ht : Torn n D p E) {i0 m q : Nat} (hD : D.length = 64 * n) (hp : ∀ i s, (i, s) ∈ p → i0 ≤ i ∧ i < i0 + m) (hq : q < 64) (h0 : ∀ s, (i0, s) ∈ p → s.take q = (sec D i0).take q ∧ s.length = 64) (hi : i0 + m ≤ n) :
    ∀ j, (j < 64 * i0 + q ∨ 64 * (i0 + m) ≤ j) → E[j]? = D[j]? := by
  intro j hj
  by_cases hjn : j < 64 * n
  · rw [sec_off hjn, sec_off (D := D) hjn]
    by_cases hin : ∃ s, (j / 64, s) ∈ p
    · obtain ⟨s, hs⟩ := hin
      obtain ⟨a, b⟩ := hp _ _ hs
      have hji : j / 64 = i0 := by omega
      rw [hji] at hs ⊢
      have hq1 : j % 64 < q := by omega
      obtain ⟨k, hk, e⟩ := ht.tear _ _ hs
      obtain ⟨t1, t2⟩ := h0 _ hs
      have hsl := sec_length hD (show i0 < n by omega)
      rw [e]
      by_cases hjk : j % 64 < k
      · rw [List.getElem?_append_left (by rw [List.length_take]; omega), List.getElem?_take, if_pos hjk]
        have e1 : s[j % 64]? = (s.take q)[j % 64]? := by rw [List.getElem?_take, if_pos hq1]
        rw [e1, t1, List.getElem?_take, if_pos hq1]
      · rw [List.getElem?_append_right (by rw [List.length_take]; omega), List.getElem?_drop, List.length_take]
        congr 1
        omega
    · rw [ht.same _ (by omega) (fun s hs => hin ⟨s, hs⟩)]
  · rw [List.getElem?_eq_none (by rw [ht.len]; omega), List.getElem?_eq_none (by omega)]
/-- The header slot alone is pending: behind a crash the header is there, or the elder one is. -/
theorem Good.header {n : Nat} {D E : List UInt8} {h h' : HdV} {l l' : List (List UInt8)} (g : Good n D h l) (hn : h'.num = h.num + 1) (hN : h'.num < 256) (hh : h'.half ≤ 1) (hlen : h'.len = (sheetB l').length) (hsum : h'.sum = sumM 0 l') (hrec : (D.drop (64 * firstM n h'.half)).take h'.len = sheetB l') (hea : ∀ r ∈ l', r.length ≤ 20000) (hro : takenM l' ≤ limitM n)
    (ht : Torn n D [(h'.num % 2, hdB h' ++ (sec D (h'.num % 2)).drop 44)] E) : Good n E h l ∨ Good n E h' l' := by
  have hn0 := g.n0
  have hs2 : h'.num % 2 < 2 := Nat.mod_lt _ (by decide)
  have hsl := sec_length g.size (show h'.num % 2 < n by omega)
  have hlim : h'.len ≤ limitM n := by have := sheet_taken l'; omega
  have hoth : ∀ i, i < n → i ≠ h'.num % 2 → sec E i = sec D i := fun i hi hne => ht.same i hi (fun s hs => by
    rw [List.mem_singleton] at hs
    exact hne (congrArg Prod.fst hs))
  have hbytes : ∀ j, j / 64 ≠ h'.num % 2 → E[j]? = D[j]? := fun j hj => by
    by_cases hjn : j < 64 * n
    · rw [sec_off hjn, sec_off (D := D) hjn, hoth _ (by omega) hj]
    · rw [List.getElem?_eq_none (by rw [ht.len]; omega), List.getElem?_eq_none (by rw [g.size]; omega)]
  obtain ⟨k, hk, e⟩ := ht.tear _ _ (List.mem_singleton.2 rfl)
  by_cases hk44 : 44 ≤ k
  · right
    have hf := first_in hn0 hh hlim
    have e44 : sec E (h'.num % 2) = hdB h' ++ (((sec D (h'.num % 2)).drop 44).take (k - 44) ++ (sec D (h'.num % 2)).drop k) := by
      rw [e, List.take_append, List.take_of_length_le (by rw [hdB_length]; omega), hdB_length, List.append_assoc]
    refine ⟨hn0, g.n1, ht.len, hN, hh, hlen, hsum, ?_, ?_, ?_, hea, hro⟩
    · have e1 : (E.drop (64 * (h'.num % 2))).take 44 = (sec E (h'.num % 2)).take 44 := by unfold sec; rw [List.take_take]; rfl
      rw [e1, e44, take_app (hdB_length _)]
    · have hslot : (h'.num + 1) % 2 = h.num % 2 := by omega
      rw [hslot, hoth _ (by omega) (by omega)]
      have e1 : sec D (h.num % 2) = hdB h ++ (sec D (h.num % 2)).drop 44 := hd_split (by rw [← g.slot]; unfold sec; rw [List.take_take]; rfl)
      rw [e1, hn]
      exact stale_hd _ _
    · rw [← hrec]
      exact cut_congr _ _ fun j a b => hbytes j (by omega)
  · left
    have hf := first_in hn0 g.half g.fits
    have hslot : (h.num + 1) % 2 = h'.num % 2 := by omega
    have hst := g.stale
    rw [hslot] at hst
    have htorn := stale_torn (c := k) (h := h') hsl hst (by have := g.num; omega) hN (by omega)
    refine ⟨hn0, g.n1, ht.len, g.num, g.half, g.len, g.sum, ?_, ?_, ?_, g.each, g.room⟩
    · rw [← g.slot]
      exact cut_congr _ _ fun j a b => hbytes j (by omega)
    · rw [hslot, e]
      exact htorn
    · rw [← g.recs]
      exact cut_congr _ _ fun j a b => hbytes j (by omega)
end
end Go.Proofs.YtpnpjblohijajabGreat
