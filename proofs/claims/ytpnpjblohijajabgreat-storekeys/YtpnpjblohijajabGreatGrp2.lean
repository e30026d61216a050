/- StoMath, joined. -/
import Derived.Test.YtpnpjblohijajabGreatGrp1
import Derived.Maps.Ext
namespace Go.Proofs.YtpnpjblohijajabGreat
section
set_option linter.unusedSimpArgs false
set_option linter.unusedVariables false
open Go.RowKit

abbrev ConL := List (List UInt8 × List UInt8)
def insK (x : List UInt8 × List UInt8) : ConL → ConL
  | [] => [x]
  | y :: r => if bytesBefore x.1 y.1 then x :: y :: r else y :: insK x r
def delK (l : ConL) (k : List UInt8) : ConL := l.filter (fun p => !(p.1 == k))
def putK (l : ConL) (k b : List UInt8) : ConL := insK (k, b) (delK l k)
def getK (l : ConL) (k : List UInt8) : Option (List UInt8) := (l.find? (fun p => p.1 == k)).map (·.2)
def sizeL (l : ConL) : Nat := (l.map (fun p => p.1.length + p.2.length + 24)).sum
def SortedL (l : ConL) : Prop := l.Pairwise (fun p q => bytesBefore p.1 q.1 = true)
structure WrV where
  key : List UInt8
  bs : List UInt8
  drop : Bool
def do1 (l : ConL) (x : WrV) : ConL := if x.drop then delK l x.key else putK l x.key x.bs
def doL (l : ConL) (t : List WrV) : ConL := t.foldl do1 l
structure IsWr (x : WrV) : Prop where
  k1 : 1 ≤ x.key.length
  k2 : x.key.length ≤ 20
  b : x.bs.length ≤ 6000
  d : x.drop = true → x.bs = []
structure IsTx (t : List WrV) : Prop where
  n1 : 1 ≤ t.length
  n2 : t.length ≤ 20
  each : ∀ x ∈ t, IsWr x
structure FitsL (room : Nat) (l : ConL) : Prop where
  few : l.length ≤ 40
  size : sizeL l ≤ room
theorem fits_iff (room : Nat) (l : ConL) : FitsL room l ↔ (l.length ≤ 40 ∧ sizeL l ≤ room) := ⟨fun h => ⟨h.few, h.size⟩, fun h => ⟨h.1, h.2⟩⟩
theorem isWr_iff (x : WrV) : IsWr x ↔ (1 ≤ x.key.length ∧ x.key.length ≤ 20 ∧ x.bs.length ≤ 6000 ∧ (x.drop = true → x.bs = [])) := ⟨fun h => ⟨h.k1, h.k2, h.b, h.d⟩, fun h => ⟨h.1, h.2.1, h.2.2.1, h.2.2.2⟩⟩
theorem isTx_iff (t : List WrV) : IsTx t ↔ (1 ≤ t.length ∧ t.length ≤ 20 ∧ ∀ x ∈ t, 1 ≤ x.key.length ∧ x.key.length ≤ 20 ∧ x.bs.length ≤ 6000 ∧ (x.drop = true → x.bs = [])) := ⟨fun h => ⟨h.n1, h.n2, fun x hx => (isWr_iff x).1 (h.each x hx)⟩, fun h => ⟨h.1, h.2.1, fun x hx => (isWr_iff x).2 (h.2.2 x hx)⟩⟩
/-- What holds of a store's contents, whatever was done. -/
structure OkL (l : ConL) : Prop where
  sorted : SortedL l
  each : ∀ p ∈ l, 1 ≤ p.1.length ∧ p.1.length ≤ 20 ∧ p.2.length ≤ 6000
def markOf (d : Bool) : UInt8 := if d then 1 else 0
def wrB (x : WrV) : List UInt8 := recB x.key ++ (markOf x.drop :: recB x.bs)
def recM (t : List WrV) : List UInt8 := (t.map wrB).flatten
def wrsOf (l : ConL) : List WrV := l.map (fun p => ⟨p.1, p.2, false⟩)

/-! ### Order -/
theorem bb_irrefl : ∀ a : List UInt8, bytesBefore a a = false
  | [] => rfl
  | a :: r => by
    unfold bytesBefore
    rw [bb_irrefl r]
    simp
theorem bb_lt : ∀ a b : List UInt8, bytesBefore a b = decide (a < b)
  | [], [] => by simp [bytesBefore]
  | [], _ :: _ => by simp [bytesBefore]
  | _ :: _, [] => by simp [bytesBefore]
  | a :: r, b :: s => by
    unfold bytesBefore
    rw [bb_lt r s, Bool.eq_iff_iff]
    simp [List.cons_lt_cons_iff]
theorem bb_trans {a b c : List UInt8} (h : bytesBefore a b = true) (k : bytesBefore b c = true) : bytesBefore a c = true := by
  rw [bb_lt, decide_eq_true_eq] at *
  exact List.lt_trans h k
theorem bb_total {a b : List UInt8} (h : bytesBefore a b = false) (hne : a ≠ b) : bytesBefore b a = true := by
  rw [bb_lt, decide_eq_true_eq]
  rw [bb_lt, decide_eq_false_iff_not] at h
  exact (List.le_iff_lt_or_eq.1 (List.not_lt.1 h)).resolve_right (fun e => hne e.symm)
theorem bb_ne {a b : List UInt8} (h : bytesBefore a b = true) : a ≠ b := fun e => by
  rw [e, bb_irrefl] at h
  cases h

/-! ### Rows -/
theorem ins_mem (x p : List UInt8 × List UInt8) : ∀ l : ConL, p ∈ insK x l ↔ p = x ∨ p ∈ l
  | [] => by simp [insK]
  | y :: r => by
    unfold insK
    split
    · simp
    · rw [List.mem_cons, ins_mem x p r, List.mem_cons]
      constructor
      · rintro (h | h | h)
        · exact .inr (.inl h)
        · exact .inl h
        · exact .inr (.inr h)
      · rintro (h | h | h)
        · exact .inr (.inl h)
        · exact .inl h
        · exact .inr (.inr h)
theorem ins_length (x : List UInt8 × List UInt8) : ∀ l : ConL, (insK x l).length = l.length + 1
  | [] => rfl
  | y :: r => by
    unfold insK
    split
    · rfl
    · rw [List.length_cons, ins_length x r, List.length_cons]
theorem ins_size (x : List UInt8 × List UInt8) : ∀ l : ConL, sizeL (insK x l) = (x.1.length + x.2.length + 24) + sizeL l
  | [] => rfl
  | y :: r => by
    unfold insK
    split
    · rfl
    · have := ins_size x r
      unfold sizeL at *
      rw [List.map_cons, List.sum_cons, this, List.map_cons, List.sum_cons]
      omega
theorem ins_sorted (x : List UInt8 × List UInt8) : ∀ l : ConL, SortedL l → (∀ p ∈ l, p.1 ≠ x.1) → SortedL (insK x l)
  | [], _, _ => List.pairwise_singleton ..
  | y :: r, h, hx => by
    obtain ⟨h1, h2⟩ := List.pairwise_cons.1 h
    unfold insK
    split
    · rename_i hb
      refine List.pairwise_cons.2 ⟨fun q hq => ?_, h⟩
      rcases List.mem_cons.1 hq with rfl | hq
      · exact hb
      · exact bb_trans hb (h1 q hq)
    · rename_i hb
      refine List.pairwise_cons.2 ⟨fun q hq => ?_, ins_sorted x r h2 (fun p hp => hx p (List.mem_cons_of_mem _ hp))⟩
      rcases (ins_mem x q r).1 hq with rfl | hq
      · exact bb_total (by simpa using hb) (fun e => hx y List.mem_cons_self e.symm)
      · exact h1 q hq
theorem del_mem (l : ConL) (k : List UInt8) (p : List UInt8 × List UInt8) : p ∈ delK l k ↔ p ∈ l ∧ p.1 ≠ k := by
  unfold delK
  rw [List.mem_filter]
  simp
theorem del_sorted {l : ConL} (h : SortedL l) (k : List UInt8) : SortedL (delK l k) := List.Pairwise.filter _ h
theorem del_length (l : ConL) (k : List UInt8) : (delK l k).length ≤ l.length := List.length_filter_le ..
theorem del_size (l : ConL) (k : List UInt8) : sizeL (delK l k) ≤ sizeL l := by
  induction l with
  | nil => exact Nat.le_refl _
  | cons y r ih =>
    unfold delK sizeL at *
    rw [List.filter_cons]
    split
    · rw [List.map_cons, List.sum_cons, List.map_cons, List.sum_cons]; omega
    · rw [List.map_cons, List.sum_cons]; omega
theorem put_mem (l : ConL) (k b : List UInt8) (p : List UInt8 × List UInt8) : p ∈ putK l k b ↔ p = (k, b) ∨ (p ∈ l ∧ p.1 ≠ k) := by
  unfold putK
  rw [ins_mem, del_mem]
theorem put_sorted {l : ConL} (h : SortedL l) (k b : List UInt8) : SortedL (putK l k b) := ins_sorted _ _ (del_sorted h k) fun p hp => ((del_mem l k p).1 hp).2
theorem put_length (l : ConL) (k b : List UInt8) : (putK l k b).length ≤ l.length + 1 := by
  unfold putK
  rw [ins_length]
  have := del_length l k
  omega
theorem OkL.nil : OkL [] := ⟨List.Pairwise.nil, fun p hp => by cases hp⟩
theorem OkL.do1 {l : ConL} (h : OkL l) {x : WrV} (hx : IsWr x) : OkL (do1 l x) := by
  unfold Go.Proofs.YtpnpjblohijajabGreat.do1
  split
  · exact ⟨del_sorted h.sorted _, fun p hp => h.each p ((del_mem _ _ _).1 hp).1⟩
  · refine ⟨put_sorted h.sorted _ _, fun p hp => ?_⟩
    rcases (put_mem _ _ _ _).1 hp with rfl | hp
    · exact ⟨hx.k1, hx.k2, hx.b⟩
    · exact h.each p hp.1
theorem OkL.doL : ∀ {t : List WrV} {l : ConL}, OkL l → (∀ x ∈ t, IsWr x) → OkL (doL l t)
  | [], _, h, _ => h
  | x :: t, l, h, hx => OkL.doL (t := t) (h.do1 (hx x List.mem_cons_self)) (fun y hy => hx y (List.mem_cons_of_mem _ hy))
theorem do1_length (l : ConL) (x : WrV) : (do1 l x).length ≤ l.length + 1 := by
  unfold do1
  split
  · have := del_length l x.key; omega
  · exact put_length ..
theorem doL_length : ∀ (t : List WrV) (l : ConL), (doL l t).length ≤ l.length + t.length
  | [], l => by unfold doL; simp
  | x :: t, l => by
    have := doL_length t (do1 l x)
    have := do1_length l x
    show (doL (do1 l x) t).length ≤ _
    rw [List.length_cons]
    omega
theorem doL_app (l : ConL) (s t : List WrV) : doL l (s ++ t) = doL (doL l s) t := List.foldl_append ..
theorem doL_snoc (l : ConL) (t : List WrV) (k : Nat) (h : k < t.length) : doL l (t.take (k + 1)) = do1 (doL l (t.take k)) t[k] := by
  rw [List.take_succ_eq_append_getElem h, doL_app]
  rfl
theorem OkL.size_le {l : ConL} (h : OkL l) : sizeL l ≤ l.length * 6044 := by
  have : ∀ l : ConL, (∀ p ∈ l, 1 ≤ p.1.length ∧ p.1.length ≤ 20 ∧ p.2.length ≤ 6000) → sizeL l ≤ l.length * 6044 := by
    intro l
    induction l with
    | nil => intro _; exact Nat.le_refl _
    | cons y r ih =>
      intro h
      have h1 := ih fun p hp => h p (List.mem_cons_of_mem _ hp)
      have h2 := h y List.mem_cons_self
      unfold sizeL at *
      rw [List.map_cons, List.sum_cons, List.length_cons]
      omega
  exact this l h.each

/-! ### Look-ups -/
theorem get_none {l : ConL} {k : List UInt8} (h : ∀ p ∈ l, p.1 ≠ k) : getK l k = none := by
  unfold getK
  rw [List.find?_eq_none.2 (fun p hp => by simpa using h p hp)]
  rfl
theorem get_mem {l : ConL} (hs : SortedL l) {k b : List UInt8} (h : (k, b) ∈ l) : getK l k = some b := by
  induction l with
  | nil => cases h
  | cons y r ih =>
    obtain ⟨h1, h2⟩ := List.pairwise_cons.1 hs
    unfold getK at *
    rw [List.find?_cons]
    rcases List.mem_cons.1 h with rfl | h
    · simp
    · have hne : (y.1 == k) = false := by
        rw [beq_eq_false_iff_ne]
        exact bb_ne (h1 _ h)
      rw [hne]
      exact ih h2 h
theorem get_some {l : ConL} {k b : List UInt8} (h : getK l k = some b) : (k, b) ∈ l := by
  unfold getK at h
  rw [Option.map_eq_some_iff] at h
  obtain ⟨p, hp, rfl⟩ := h
  have h1 := List.mem_of_find?_eq_some hp
  have h2 := List.find?_some hp
  rw [beq_iff_eq] at h2
  subst h2
  exact h1
theorem get_put_same {l : ConL} (h : SortedL l) (k b : List UInt8) : getK (putK l k b) k = some b := get_mem (put_sorted h k b) ((put_mem _ _ _ _).2 (.inl rfl))
theorem get_del_same (l : ConL) (k : List UInt8) : getK (delK l k) k = none := get_none fun p hp => ((del_mem _ _ _).1 hp).2
theorem get_other {l m : ConL} (hl : SortedL l) (hm : SortedL m) {k : List UInt8} (h : ∀ b, (k, b) ∈ l ↔ (k, b) ∈ m) : getK l k = getK m k := by
  cases hg : getK l k with
  | some b => rw [get_mem hm ((h b).1 (get_some hg))]
  | none =>
    cases hg2 : getK m k with
    | none => rfl
    | some b => rw [get_mem hl ((h b).2 (get_some hg2))] at hg; cases hg
theorem get_put_other {l : ConL} (h : SortedL l) {k j : List UInt8} (b : List UInt8) (hne : j ≠ k) : getK (putK l k b) j = getK l j := by
  refine get_other (put_sorted h k b) h fun c => ?_
  rw [put_mem]
  constructor
  · rintro (e | e)
    · injection e with e; exact absurd e hne
    · exact e.1
  · exact fun e => .inr ⟨e, hne⟩
theorem get_del_other {l : ConL} (h : SortedL l) {k j : List UInt8} (hne : j ≠ k) : getK (delK l k) j = getK l j := by
  refine get_other (del_sorted h k) h fun c => ?_
  rw [del_mem]
  exact ⟨fun e => e.1, fun e => ⟨e, hne⟩⟩
theorem sorted_ext {l m : ConL} (hl : SortedL l) (hm : SortedL m) (h : ∀ p, p ∈ l ↔ p ∈ m) : l = m := by
  induction l generalizing m with
  | nil =>
    cases m with
    | nil => rfl
    | cons y r => have := (h y).2 List.mem_cons_self; cases this
  | cons a r ih =>
    cases m with
    | nil => have := (h a).1 List.mem_cons_self; cases this
    | cons b s =>
      obtain ⟨a1, a2⟩ := List.pairwise_cons.1 hl
      obtain ⟨b1, b2⟩ := List.pairwise_cons.1 hm
      have hab : a = b := by
        rcases List.mem_cons.1 ((h a).1 List.mem_cons_self) with e | ha
        · exact e
        · rcases List.mem_cons.1 ((h b).2 List.mem_cons_self) with e | hb
          · exact e.symm
          · have := bb_trans (b1 a ha) (a1 b hb)
            rw [bb_irrefl] at this
            cases this
      subst hab
      rw [ih a2 b2 fun p => ⟨fun hp => ?_, fun hp => ?_⟩]
      · rcases List.mem_cons.1 ((h p).1 (List.mem_cons_of_mem _ hp)) with e | hp'
        · have := a1 p hp
          rw [e, bb_irrefl] at this
          cases this
        · exact hp'
      · rcases List.mem_cons.1 ((h p).2 (List.mem_cons_of_mem _ hp)) with e | hp'
        · have := b1 p hp
          rw [e, bb_irrefl] at this
          cases this
        · exact hp'

/-! ### What contents come to, as a transaction -/
theorem do_wrs_mem : ∀ (l : ConL) (m : ConL), SortedL m → SortedL l → (∀ p ∈ l, ∀ q ∈ m, q.1 ≠ p.1) → ∀ p, p ∈ doL m (wrsOf l) ↔ p ∈ m ∨ p ∈ l
  | [], m, _, _, _, p => by unfold wrsOf doL; simp
  | x :: l, m, hm, hl, hx, p => by
    obtain ⟨h1, h2⟩ := List.pairwise_cons.1 hl
    show p ∈ doL (putK m x.1 x.2) (wrsOf l) ↔ _
    rw [do_wrs_mem l (putK m x.1 x.2) (put_sorted hm _ _) h2 (fun q hq r hr => ?_), put_mem, List.mem_cons]
    · constructor
      · rintro ((h | h) | h)
        · exact .inr (.inl h)
        · exact .inl h.1
        · exact .inr (.inr h)
      · rintro (h | h | h)
        · exact .inl (.inr ⟨h, hx x List.mem_cons_self p h⟩)
        · exact .inl (.inl h)
        · exact .inr h
    · rcases (put_mem _ _ _ _).1 hr with rfl | hr
      · exact bb_ne (h1 q hq)
      · exact hx q (List.mem_cons_of_mem _ hq) r hr.1
theorem doL_sorted : ∀ (t : List WrV) (l : ConL), SortedL l → SortedL (doL l t)
  | [], _, h => h
  | x :: t, l, h => doL_sorted t _ (by unfold do1; split <;> first | exact del_sorted h _ | exact put_sorted h _ _)
theorem do_wrs {l : ConL} (h : SortedL l) : doL [] (wrsOf l) = l :=
  sorted_ext (doL_sorted _ _ List.Pairwise.nil) h fun p => by rw [do_wrs_mem l [] List.Pairwise.nil h (fun p _ q hq => by cases hq)]; simp
theorem wrs_is {l : ConL} (h : OkL l) : ∀ x ∈ wrsOf l, IsWr x := fun x hx => by
  obtain ⟨p, hp, rfl⟩ := List.mem_map.1 hx
  have := h.each p hp
  exact ⟨this.1, this.2.1, this.2.2, fun h => by cases h⟩
theorem wrB_length (x : WrV) : (wrB x).length = x.key.length + x.bs.length + 5 := by
  unfold wrB
  rw [List.length_append, recB_length, List.length_cons, recB_length]
  omega
theorem recM_app (s t : List WrV) : recM (s ++ t) = recM s ++ recM t := by unfold recM; rw [List.map_append, List.flatten_append]
theorem recM_cons (x : WrV) (t : List WrV) : recM (x :: t) = wrB x ++ recM t := rfl
theorem rec_wrs_le (l : ConL) : (recM (wrsOf l)).length ≤ sizeL l := by
  induction l with
  | nil => exact Nat.le_refl _
  | cons y r ih =>
    show (recM (⟨y.1, y.2, false⟩ :: wrsOf r)).length ≤ _
    rw [recM_cons, List.length_append, wrB_length]
    unfold sizeL at *
    rw [List.map_cons, List.sum_cons]
    show y.1.length + y.2.length + 5 + _ ≤ _
    omega
theorem recM_le {t : List WrV} (h : IsTx t) : (recM t).length ≤ 120500 := by
  have : ∀ t : List WrV, (∀ x ∈ t, IsWr x) → (recM t).length ≤ t.length * 6025 := by
    intro t
    induction t with
    | nil => intro _; exact Nat.le_refl _
    | cons x t ih =>
      intro h
      have h1 := ih fun p hp => h p (List.mem_cons_of_mem _ hp)
      have h2 := h x List.mem_cons_self
      have := h2.k2
      have := h2.b
      rw [recM_cons, List.length_append, wrB_length, List.length_cons]
      omega
  have h1 := this t h.each
  have := h.n2
  omega

/-! ### What the records of a journal come to -/
def endL (l : ConL) (ts : List (List WrV)) : ConL := ts.foldl doL l
/-- A store wrote these: each is made of writes, and what they come to always fitted. -/
def Runs (room : Nat) : ConL → List (List WrV) → Prop
  | _, [] => True
  | l, t :: ts => (∀ x ∈ t, IsWr x) ∧ FitsL room (doL l t) ∧ Runs room (doL l t) ts
theorem Runs.snoc {room : Nat} {t : List WrV} : ∀ {ts : List (List WrV)} {l : ConL}, Runs room l ts → (∀ x ∈ t, IsWr x) → FitsL room (doL (endL l ts) t) → Runs room l (ts ++ [t])
  | [], _, _, hx, hf => ⟨hx, hf, trivial⟩
  | s :: ts, l, h, hx, hf => ⟨h.1, h.2.1, Runs.snoc (ts := ts) h.2.2 hx hf⟩
theorem endL_snoc (l : ConL) (ts : List (List WrV)) (t : List WrV) : endL l (ts ++ [t]) = doL (endL l ts) t := by unfold endL; rw [List.foldl_append]; rfl
theorem Runs.one {room : Nat} {l : ConL} (h : OkL l) (hf : FitsL room l) : Runs room [] [wrsOf l] ∧ endL [] [wrsOf l] = l := by
  have e := do_wrs h.sorted
  exact ⟨⟨wrs_is h, by rw [e]; exact hf, trivial⟩, e⟩
theorem Runs.ok {room : Nat} : ∀ {ts : List (List WrV)} {l : ConL}, Runs room l ts → OkL l → OkL (endL l ts)
  | [], _, _, h => h
  | t :: ts, l, hr, h => Runs.ok (ts := ts) hr.2.2 (h.doL hr.1)
theorem Runs.take {room : Nat} : ∀ {ts : List (List WrV)} {l : ConL} (k : Nat), Runs room l ts → (h : k < ts.length) → (∀ x ∈ ts[k], IsWr x) ∧ FitsL room (doL (endL l (ts.take k)) ts[k])
  | t :: ts, l, 0, hr, _ => ⟨hr.1, hr.2.1⟩
  | t :: ts, l, k + 1, hr, h => Runs.take (ts := ts) (l := doL l t) k hr.2.2 (by simpa using h)
theorem endL_take (l : ConL) (ts : List (List WrV)) (k : Nat) (h : k < ts.length) : endL l (ts.take (k + 1)) = doL (endL l (ts.take k)) ts[k] := by
  rw [List.take_succ_eq_append_getElem h, endL_snoc]
end
end Go.Proofs.YtpnpjblohijajabGreat
