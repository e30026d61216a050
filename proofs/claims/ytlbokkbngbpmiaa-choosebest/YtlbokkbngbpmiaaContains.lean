/- The contracts of slices.ContainsFunc over who was heard, and of choose's lacks. -/
import Derived.Test.YtlbokkbngbpmiaaEars
namespace Go.Proofs.Ytlbokkbngbpmiaa
set_option linter.unusedSimpArgs false
set_option linter.unusedVariables false
set_option maxRecDepth 100000
open Go.RowKit

theorem any_take_succ {α : Type} (p : α → Bool) (xs : List α) (n : Nat) (h : n < xs.length) (h0 : (xs.take n).any p = false) (h1 : p xs[n] = false) : (xs.take (n + 1)).any p = false := by
  rw [List.take_succ_eq_append_getElem h, List.any_append, h0, List.any_cons, h1]
  rfl
theorem any_at {α : Type} (p : α → Bool) (xs : List α) (n : Nat) (h : n < xs.length) (h1 : p xs[n] = true) : xs.any p = true := List.any_eq_true.2 ⟨_, List.getElem_mem h, h1⟩

set_option maxHeartbeats 4000000 in
theorem indexI_any (f : FuncId) (hf : f = 62 ∨ f = 45) (hs : List Int) (s : Nat) (p : Int → Bool) (hp : ∀ (x : Int) (w : World), 0 ≤ x → x < 5 → Calls Try.prog f #[.agg (earsC hs s), .int .i64 x] w fun en w' => en = .returned (.bool (p x)) ∧ Below w.heap.size w w')
    (ao : Option Addr) (c : Nat) (xs : List Int) (w : World) (hx : Ix w ao c xs) (hin : ∀ x ∈ xs, 0 ≤ x ∧ x < 5) (hl : xs.length ≤ 1000000) :
    Calls Try.prog 67 #[.slice ao xs.length c, .func (.func f) #[.agg (earsC hs s)] #[]] w fun en w' => (∃ k : Int, en = .returned (.int .i64 k) ∧ xs.any p = decide (0 ≤ k) ∧ -1 ≤ k ∧ k ≤ 1000000) ∧ Below w.heap.size w w' := by
  have hcap := hx.cap
  have hle := hx.le
  go_enter Try.func67, Try.ntmps67
  go_wp2
  go_loopw [8] (fun i wr => ∃ n : Nat, n ≤ xs.length ∧ i = .int .i64 n ∧ (xs.take n).any p = false ∧ Below w.heap.size w wr) (fun i _ => xs.length - (intOf i).toNat)
  case atStart => exact ⟨0, Nat.zero_le _, rfl, rfl, Below.refl _ _⟩
  case round =>
    obtain ⟨n, hn, rfl, hno, hb⟩ := hrel
    by_cases hlt : n < xs.length
    · have hnI : (n : Int) < (xs.length : Int) := by omega
      cases ao with
      | none => have h1 := hx.nil rfl; omega
      | some ad =>
        have cx := (hx.later hb).at' ad rfl n hlt
        have hxn := hin xs[n] (List.getElem_mem hlt)
        have hnext : Hid (p xs[n] = false → (xs.take (n + 1)).any p = false) := fun h => any_take_succ p xs n hlt hno h
        have hfound : Hid (p xs[n] = true → xs.any p = true) := fun h => any_at p xs n hlt h
        generalize xs[n] = x at *
        clear hno
        rcases hf with rfl | rfl
        all_goals go_wp2_with fail
        all_goals
          refine (hp x _ hxn.1 hxn.2).mono ?_
          rintro e w4 ⟨rfl, hb4⟩
          replace hb := hb.trans (hb4.mono hb.size)
          clear hb4
          cases hpn : p x with
          | false =>
            have hno : Hid _ := hnext.out hpn
            go_wp2
            go_roundw
            case rel => exact ⟨n + 1, by omega, by go_num, hno.out, hb⟩
            case measure => simp [intOf]; omega
          | true =>
            have hyes : Hid _ := hfound.out hpn
            go_wp2
            go_ret
            exact ⟨⟨n, rfl, by rw [hyes.out, decide_eq_true (by omega)], by omega, by omega⟩, hb⟩
    · have e : n = xs.length := by omega
      subst e
      rw [List.take_length] at hno
      have hno' : Hid _ := hno
      clear hno
      go_wp2
      go_ret
      exact ⟨⟨-1, rfl, by rw [hno'.out]; rfl, by omega, by omega⟩, hb⟩

set_option maxHeartbeats 1000000 in
theorem containsI_any (f : FuncId) (hf : f = 62 ∨ f = 45) (hs : List Int) (s : Nat) (p : Int → Bool) (hp : ∀ (x : Int) (w : World), 0 ≤ x → x < 5 → Calls Try.prog f #[.agg (earsC hs s), .int .i64 x] w fun en w' => en = .returned (.bool (p x)) ∧ Below w.heap.size w w')
    (ao : Option Addr) (c : Nat) (xs : List Int) (w : World) (hx : Ix w ao c xs) (hin : ∀ x ∈ xs, 0 ≤ x ∧ x < 5) (hl : xs.length ≤ 1000000) :
    Calls Try.prog 44 #[.slice ao xs.length c, .func (.func f) #[.agg (earsC hs s)] #[]] w fun en w' => en = .returned (.bool (xs.any p)) ∧ Below w.heap.size w w' := by
  go_enter Try.func44, Try.ntmps44
  go_wp2_with fail
  refine (indexI_any f hf hs s p hp ao c xs w hx hin hl).mono ?_
  rintro e w4 ⟨⟨k, rfl, hk, h1, h2⟩, hb4⟩
  have hk' : Hid _ := hk
  clear hk
  go_wp2
  go_ret
  exact ⟨by rw [hk'.out]; rfl, hb4⟩

theorem hearsI_any (hs : List Int) (s : Nat) (ao : Option Addr) (c : Nat) (xs : List Int) (w : World) (hx : Ix w ao c xs) (hin : ∀ x ∈ xs, 0 ≤ x ∧ x < 5) (hl : xs.length ≤ 1000000) :
    Calls Try.prog 44 #[.slice ao xs.length c, .func (.func 62) #[.agg (earsC hs s)] #[]] w fun en w' => en = .returned (.bool (xs.any (hrd hs))) ∧ Below w.heap.size w w' :=
  containsI_any 62 (.inl rfl) hs s (hrd hs) (fun x w h0 h5 => hears_any hs s x w h0 h5) ao c xs w hx hin hl
theorem missesI_any (hs : List Int) (s : Nat) (ao : Option Addr) (c : Nat) (xs : List Int) (w : World) (hx : Ix w ao c xs) (hin : ∀ x ∈ xs, 0 ≤ x ∧ x < 5) (hl : xs.length ≤ 1000000) :
    Calls Try.prog 44 #[.slice ao xs.length c, .func (.func 45) #[.agg (earsC hs s)] #[]] w fun en w' => en = .returned (.bool (xs.any fun x => !hrd hs x)) ∧ Below w.heap.size w w' :=
  containsI_any 45 (.inr rfl) hs s (fun x => !hrd hs x) (fun x w h0 h5 => misses_any hs s x w h0 h5) ao c xs w hx hin hl

set_option maxHeartbeats 4000000 in
theorem lacks_any (hs : List Int) (s : Nat) (v : IvE) (w : World) (hx : Ix w v.ao v.c v.l) (hin : ∀ x ∈ v.l, 0 ≤ x ∧ x < 5) (hl : v.l.length ≤ 1000000) (hv : v.s < 4294967296) (hs4 : s < 4294967296) :
    Calls Try.prog 40 #[.agg (earsC hs s), .agg (ivA v)] w fun en w' => en = .returned (.bool (lackB hs s (v.s, v.l))) ∧ Below w.heap.size w w' := by
  have hmf : ∀ (fn : Fn) (first cap : Array Value) (w : World), (Instr.makeFunc fn first cap).run Try.prog w = .ok (.func fn first cap) w := fun _ _ _ _ => rfl
  obtain ⟨w1, hw1⟩ : ∃ W, w.alloc (.cells (earsC hs s) 94) = W := ⟨_, rfl⟩
  have hs1 : w1.heap.size = w.heap.size + 1 := by rw [← hw1]; simp
  have hE1 : Has w1 w.heap.size 94 (earsC hs s) := hw1 ▸ Has.new _ _ _
  obtain ⟨w2, hw2⟩ : ∃ W, w1.alloc (.cells (ivA v) 38) = W := ⟨_, rfl⟩
  have hV : Has w2 (w.heap.size + 1) 38 (ivA v) := by rw [← hs1, ← hw2]; exact Has.new _ _ _
  have hE : Has w2 w.heap.size 94 (earsC hs s) := by rw [← hw2]; exact hE1.alloc _
  have hb : Below w.heap.size w w2 := by
    rw [← hw2]
    exact (hw1 ▸ (Below.refl _ _).alloc (Nat.le_refl _) _ : Below w.heap.size w w1).alloc (by omega) _
  have hsw : (w.alloc (.cells (earsC hs s) 94)).alloc (.cells (ivA v) 38) = w2 := by rw [hw1, hw2]
  have hc0 : Hid (lackB hs s (v.s, v.l) = ((decide (2 ≤ v.l.length) && decide (s ≤ v.s)) && !(v.l.any (hrd hs)))) := rfl
  clear hw1 hw2 hE1 hs1
  go_enter Try.func40, Try.ntmps40
  go_wp2_with (first
    | (refine wpList_load_has (by rfl) 38 _ rfl (w.heap.size + 1) rfl 38 (ivA v) _ Try.underlying38 rfl (ivA_size _) ?hg ?_; (case hg => first | exact hV | (rw [hsw]; exact hV))))
  have hsv := serves_any v w2 hl
  clear hsw
  cases h2 : decide (2 ≤ v.l.length) with
  | false =>
    have hF : Hid (lackB hs s (v.s, v.l) = false) := by show _ = _; rw [hc0.out, h2]; rfl
    rw [h2] at hsv
    clear hc0 h2
    refine hsv.mono ?_
    rintro e w3 ⟨rfl, hq⟩
    replace hb := hb.trans (hq.mono hb.size)
    clear hq hsv hV hE
    go_wp2
    go_ret
    exact ⟨by rw [hF.out]; rfl, hb⟩
  | true =>
    rw [h2] at hsv
    refine hsv.mono ?_
    rintro e w3 ⟨rfl, hq⟩
    replace hV := hV.later hq
    replace hE := hE.later hq
    replace hb := hb.trans (hq.mono hb.size)
    clear hq hsv
    have c0 : w3.cell? ⟨w.heap.size + 1, 0, none⟩ = some (.int .u32 (v.s : Int)) := hV.cell 0
    have c1 : w3.cell? ⟨w.heap.size + 1, 0 + 1, none⟩ = some (.slice v.ao v.l.length v.c) := hV.cell 1
    have c2 : w3.cell? ⟨w.heap.size, 5, none⟩ = some (.int .u32 (s : Int)) := hE.cell 5
    have hx3 := hx.later hb
    by_cases hle : s ≤ v.s
    · have hleI : (s : Int) ≤ (v.s : Int) := by omega
      have hF : Hid (lackB hs s (v.s, v.l) = !(v.l.any (hrd hs))) := by show _ = _; rw [hc0.out, h2, decide_eq_true hle]; rfl
      clear hc0 h2
      go_wp2_with (first
        | (refine wpList_load_has (by rfl) 94 _ rfl w.heap.size rfl 94 (earsC hs s) _ Try.underlying94 rfl (ears_size _ _) ?hg ?_; (case hg => exact hE)))
      refine (hearsI_any hs s v.ao v.c v.l _ hx3 hin hl).mono ?_
      rintro e w4 ⟨rfl, hq⟩
      replace hb := hb.trans (hq.mono hb.size)
      clear hq
      generalize v.l.any (hrd hs) = b at *
      go_wp2
      go_ret
      exact ⟨by rw [hF.out]; rfl, hb⟩
    · have hleI : (v.s : Int) < (s : Int) := by omega
      have hF : Hid (lackB hs s (v.s, v.l) = false) := by show _ = _; rw [hc0.out, h2, decide_eq_false hle]; rfl
      clear hc0 h2
      go_wp2
      go_ret
      exact ⟨by rw [hF.out]; rfl, hb⟩

/-- Intervals in a slice, each with its list. -/
structure IvS (w : World) (ao : Option Addr) (c : Nat) (vs : List IvE) : Prop where
  sl : Sl w ao c 2 (rowsI vs)
  ix : ∀ x ∈ vs, Ix w x.ao x.c x.l
theorem IvS.later {w w' : World} {ao : Option Addr} {c : Nat} {vs : List IvE} (h : IvS w ao c vs) (hb : Below w.heap.size w w') : IvS w' ao c vs := ⟨h.sl.later hb, fun x hx => (h.ix x hx).later hb⟩
theorem IvS.len {w : World} {ao : Option Addr} {c : Nat} {vs : List IvE} (h : IvS w ao c vs) : vs.length ≤ c := by have := h.sl.le; rw [rowsI_len] at this; exact this
theorem Iv.rows {w : World} {ao : Option Addr} {c : Nat} {l : List (Nat × List Int)} (h : Iv w ao c l) : ∃ vs, ivOf vs = l ∧ IvS w ao c vs := by
  cases ao with
  | none =>
    have hc := h.nil rfl
    have hl := h.le
    obtain rfl : l = [] := List.eq_nil_of_length_eq_zero (by omega)
    subst hc
    exact ⟨[], rfl, ⟨Sl.nothing _ _, fun x hx => by cases hx⟩⟩
  | some ad =>
    have each : ∀ i : Fin l.length, ∃ v : IvE, (v.s, v.l) = l[i.val] ∧ (∀ j, j < 2 → w.cell? (ad.add (i.val * 2 + j)) = (cellsI v)[j]?) ∧ Ix w v.ao v.c v.l := fun i => by
      obtain ⟨h1, bo, d, h2, h3⟩ := h.at' ad rfl i.val i.isLt
      refine ⟨⟨l[i.val].1, bo, d, l[i.val].2⟩, rfl, fun j hj => ?_, h3⟩
      match j, hj with
      | 0, _ => exact h1
      | 1, _ => exact h2
    refine ⟨List.ofFn fun i : Fin l.length => (each i).choose, ?_, ⟨⟨?_, h.cap, h.nil, rowsI_each _, fun ad' had i hi j hj => ?_⟩, fun x hx => ?_⟩⟩
    · apply List.ext_getElem
      · rw [ivOf_len, List.length_ofFn]
      · intro i h1 h2
        have := (each ⟨i, h2⟩).choose_spec.1
        simp only [ivOf, List.getElem_map, List.getElem_ofFn]
        exact this
    · rw [rowsI_len, List.length_ofFn]; exact h.le
    · obtain rfl := Option.some.inj had
      have hi' : i < l.length := by rw [rowsI_len, List.length_ofFn] at hi; exact hi
      have := (each ⟨i, hi'⟩).choose_spec.2.1 j hj
      rw [this]
      simp [rowsI]
    · obtain ⟨i, rfl⟩ := List.mem_ofFn.1 hx
      exact (each i).choose_spec.2.2
theorem IvS.iv {w : World} {ao : Option Addr} {c : Nat} {vs : List IvE} (h : IvS w ao c vs) : Iv w ao c (ivOf vs) := by
  refine ⟨by rw [ivOf_len]; exact h.len, h.sl.cap, h.sl.nil, fun ad had i hi => ?_⟩
  have hi' : i < vs.length := by rw [ivOf_len] at hi; exact hi
  have e2 : (ivOf vs)[i] = (vs[i].s, vs[i].l) := by simp [ivOf]
  have er : (rowsI vs)[i]'(by rw [rowsI_len]; exact hi') = cellsI vs[i] := by simp [rowsI]
  have h0 := h.sl.at' ad had i (by rw [rowsI_len]; exact hi') 0 (by decide)
  have h1 := h.sl.at' ad had i (by rw [rowsI_len]; exact hi') 1 (by decide)
  rw [er] at h0 h1
  rw [e2]
  exact ⟨h0, vs[i].ao, vs[i].c, h1, h.ix _ (List.getElem_mem hi')⟩
theorem IvS.row {w : World} {ad : Addr} {c : Nat} {vs : List IvE} (h : IvS w (some ad) c vs) (n : Nat) (hn : n < vs.length) : ∀ j v, (cellsI vs[n])[j]? = some v → w.cell? ((ad.add (n * 2)).add j) = some v := by
  intro j v hj
  have hj2 : j < 2 := by
    rcases Nat.lt_or_ge j 2 with h | h
    · exact h
    · rw [List.getElem?_eq_none (by show 2 ≤ j; omega)] at hj; cases hj
  have h0 := h.sl.at' ad rfl n (by rw [rowsI_len]; exact hn) j hj2
  have er : (rowsI vs)[n]'(by rw [rowsI_len]; exact hn) = cellsI vs[n] := by simp [rowsI]
  rw [er, hj] at h0
  rw [Go.Deep.add_add]
  exact h0
/-- What the intervals of a group are. -/
structure IvOk (v : IvE) : Prop where
  s : v.s < 4294967296
  len : v.l.length ≤ 1000000
  inn : ∀ x ∈ v.l, 0 ≤ x ∧ x < 5

set_option maxHeartbeats 4000000 in
theorem indexV_any (hs : List Int) (s : Nat) (hs4 : s < 4294967296) (ao : Option Addr) (c : Nat) (vs : List IvE) (w : World) (h : IvS w ao c vs) (hok : ∀ v ∈ vs, IvOk v) (hl : vs.length ≤ 1000000) :
    Calls Try.prog 66 #[.slice ao vs.length c, .func (.func 40) #[.agg (earsC hs s)] #[]] w fun en w' => (∃ k : Int, en = .returned (.int .i64 k) ∧ (ivOf vs).any (lackB hs s) = decide (0 ≤ k) ∧ -1 ≤ k ∧ k ≤ 1000000) ∧ Below w.heap.size w w' := by
  have hcap := h.sl.cap
  have hle := h.len
  go_enter Try.func66, Try.ntmps66
  go_wp2
  go_loopw [8] (fun i wr => ∃ n : Nat, n ≤ vs.length ∧ i = .int .i64 n ∧ ((ivOf vs).take n).any (lackB hs s) = false ∧ Below w.heap.size w wr) (fun i _ => vs.length - (intOf i).toNat)
  case atStart => exact ⟨0, Nat.zero_le _, rfl, rfl, Below.refl _ _⟩
  case round =>
    obtain ⟨n, hn, rfl, hno, hb⟩ := hrel
    by_cases hlt : n < vs.length
    · have hnI : (n : Int) < (vs.length : Int) := by omega
      cases ao with
      | none => have h1 := h.sl.nil rfl; omega
      | some ad =>
        have hlt' : n < (ivOf vs).length := by rw [ivOf_len]; exact hlt
        have cx := (h.later hb).row n hlt
        have hxn := hok vs[n] (List.getElem_mem hlt)
        have hix := (h.later hb).ix vs[n] (List.getElem_mem hlt)
        have e0 : (ivOf vs)[n] = (vs[n].s, vs[n].l) := by simp [ivOf]
        have hnext : Hid (lackB hs s (vs[n].s, vs[n].l) = false → ((ivOf vs).take (n + 1)).any (lackB hs s) = false) := fun h => any_take_succ _ _ n hlt' hno (by rw [e0]; exact h)
        have hfound : Hid (lackB hs s (vs[n].s, vs[n].l) = true → (ivOf vs).any (lackB hs s) = true) := fun h => any_at _ _ n hlt' (by rw [e0]; exact h)
        clear e0 hno hlt'
        generalize vs[n] = x at *
        go_wp2_with (first
          | (refine wpList_load_any (by rfl) 38 _ rfl (ad.add (n * 2)) rfl (cellsI x) _ ?hg Try.underlying38 rfl (ivA_size x) ?_; (case hg => exact cx)))
        refine (lacks_any hs s x _ hix hxn.inn hxn.len hxn.s hs4).mono ?_
        rintro e w4 ⟨rfl, hb4⟩
        replace hb := hb.trans (hb4.mono hb.size)
        clear hb4 cx hix
        cases hpn : lackB hs s (x.s, x.l) with
        | false =>
          have hno : Hid _ := hnext.out hpn
          go_wp2
          go_roundw
          case rel => exact ⟨n + 1, by omega, by go_num, hno.out, hb⟩
          case measure => simp [intOf]; omega
        | true =>
          have hyes : Hid _ := hfound.out hpn
          go_wp2
          go_ret
          exact ⟨⟨n, rfl, by rw [hyes.out, decide_eq_true (by omega)], by omega, by omega⟩, hb⟩
    · have e : n = vs.length := by omega
      subst e
      rw [← ivOf_len, List.take_length] at hno
      have hno' : Hid _ := hno
      clear hno
      go_wp2
      go_ret
      exact ⟨⟨-1, rfl, by rw [hno'.out]; rfl, by omega, by omega⟩, hb⟩

set_option maxHeartbeats 1000000 in
theorem containsV_any (hs : List Int) (s : Nat) (hs4 : s < 4294967296) (ao : Option Addr) (c : Nat) (vs : List IvE) (w : World) (h : IvS w ao c vs) (hok : ∀ v ∈ vs, IvOk v) (hl : vs.length ≤ 1000000) :
    Calls Try.prog 43 #[.slice ao vs.length c, .func (.func 40) #[.agg (earsC hs s)] #[]] w fun en w' => en = .returned (.bool ((ivOf vs).any (lackB hs s))) ∧ Below w.heap.size w w' := by
  go_enter Try.func43, Try.ntmps43
  go_wp2_with fail
  refine (indexV_any hs s hs4 ao c vs w h hok hl).mono ?_
  rintro e w4 ⟨⟨k, rfl, hk, h1, h2⟩, hb4⟩
  have hk' : Hid _ := hk
  clear hk
  go_wp2
  go_ret
  exact ⟨by rw [hk'.out]; rfl, hb4⟩
end Go.Proofs.Ytlbokkbngbpmiaa
