/- The document's acceptor: what it is in memory; the contracts of its Is, Less, Prepare, Accept. -/
import Derived.Test.YtlcappkokdgpgaaBalMem
import Derived.Test.YtlcappkokdgpgaaRefInc
namespace Go.Proofs.Ytlcappkokdgpgaa
set_option linter.unusedSimpArgs false
set_option linter.unusedVariables false
set_option maxRecDepth 100000
open Go.RowKit

def refC (a : AccV) (h : Bool) : Array Value := #[.int .u32 a.pro.n, .int .u8 a.pro.who, .int .u32 a.acc.n, .int .u8 a.acc.who, .int .u8 a.inc.kind, .int .u8 a.inc.osd, .int .i64 a.inc.n, .bool h]
/-- Whether anything was accepted, behind a call. -/
def hasN (e : Nat) (h : Bool) : Bool := if e = 0 then true else h
theorem ref_built0 : Try.prog.built 33 [] = some (refC acc0 false) := by kernel_rfl

theorem ref_pro {w : World} {g : Nat} {t : TypeId} {a : AccV} {b : Bool} (h : Has w g t (refC a b)) : w.rangeAt g 0 (balC a.pro).toList := h.range 0 _ fun j v hj => by
  match j, hj with
  | 0, hj => exact hj
  | 1, hj => exact hj
theorem ref_acc {w : World} {g : Nat} {t : TypeId} {a : AccV} {b : Bool} (h : Has w g t (refC a b)) : w.rangeAt g 2 (balC a.acc).toList := h.range 2 _ fun j v hj => by
  match j, hj with
  | 0, hj => exact hj
  | 1, hj => exact hj
theorem ref_inc {w : World} {g : Nat} {t : TypeId} {a : AccV} {b : Bool} (h : Has w g t (refC a b)) : w.rangeAt g 4 (incC a.inc).toList := h.range 4 _ fun j v hj => by
  match j, hj with
  | 0, hj => exact hj
  | 1, hj => exact hj
  | 2, hj => exact hj
theorem ref_has {w : World} {g : Nat} {t : TypeId} {a : AccV} {b : Bool} (h : Has w g t (refC a b)) : w.cell? ⟨g, 7, none⟩ = some (.bool b) := h.cell 7

theorem Has.rsetPro {w : World} {g : Nat} {t : TypeId} {a : AccV} {h : Bool} (k : Has w g t (refC a h)) (b : BalV) : Has (w.setCells g 0 (balC b).toList) g t (refC { a with pro := b } h) := k.set2 0 (.int .u32 b.n) (.int .u8 b.who)
theorem Has.rsetAcc {w : World} {g : Nat} {t : TypeId} {a : AccV} {h : Bool} (k : Has w g t (refC a h)) (b : BalV) : Has (w.setCells g 2 (balC b).toList) g t (refC { a with acc := b } h) := k.set2 2 (.int .u32 b.n) (.int .u8 b.who)
theorem Has.rsetInc {w : World} {g : Nat} {t : TypeId} {a : AccV} {h : Bool} (k : Has w g t (refC a h)) (x : IncV) : Has (w.setCells g 4 (incC x).toList) g t (refC { a with inc := x } h) := k.set3 4 (.int .u8 x.kind) (.int .u8 x.osd) (.int .i64 x.n)
theorem Has.rsetHas {w : World} {g : Nat} {t : TypeId} {a : AccV} {h : Bool} (k : Has w g t (refC a h)) (b : Bool) : Has (w.setCell ⟨g, 7, none⟩ (.bool b)) g t (refC a b) := k.set 7 (.bool b)

theorem rless_any (a b : BalV) (w : World) (ha : BalOk a) (hb : BalOk b) :
    Calls Try.prog 22 #[.agg (balC a), .agg (balC b)] w fun e w' => e = .returned (.bool (lessB a b)) ∧ Below w.heap.size w w' := by
  obtain ⟨n, k⟩ := a
  obtain ⟨m, l⟩ := b
  obtain ⟨h1, h2⟩ := ha
  obtain ⟨h3, h4⟩ := hb
  simp only at h1 h2 h3 h4
  show Calls Try.prog 22 #[.agg #[.int .u32 (n : Int), .int .u8 (k : Int)], .agg #[.int .u32 (m : Int), .int .u8 (l : Int)]] w _
  go_enter Try.func22, Try.ntmps22
  go_wp2
  all_goals
    go_ret
    refine ⟨ret_bool ?_, ((Below.refl _ _).alloc (Nat.le_refl _) _).alloc (by simp) _⟩
    rw [Bool.eq_iff_iff, lessB_is]
    simp only [beq_iff_eq, beq_eq_false_iff_ne, ne_eq] at *
    simp
    omega
theorem ris_any (b : BalV) (w : World) (hb : BalOk b) :
    Calls Try.prog 20 #[.agg (balC b)] w fun e w' => e = .returned (.bool (isB b)) ∧ Below w.heap.size w w' := by
  obtain ⟨n, k⟩ := b
  obtain ⟨h1, h2⟩ := hb
  simp only at h1 h2
  show Calls Try.prog 20 #[.agg #[.int .u32 (n : Int), .int .u8 (k : Int)]] w _
  go_enter Try.func20, Try.ntmps20
  go_wp2
  all_goals
    go_ret
    refine ⟨ret_bool ?_, (Below.refl _ _).alloc (Nat.le_refl _) _⟩
    rw [Bool.eq_iff_iff, isB_is]
    simp only [beq_iff_eq, beq_eq_false_iff_ne, ne_eq] at *
    simp
    omega

set_option maxHeartbeats 2000000 in
theorem rprepare_any (p : Nat) (a : AccV) (hs : Bool) (b : BalV) (w : World) (h : Has w p 33 (refC a hs)) (ha : AccOk a) (hb : BalOk b) :
    Calls Try.prog 14 #[.pointer (some ⟨p, 0, none⟩), .agg (balC b)] w fun e w' => e = .returned (.int .i64 (errP a.pro b : Nat)) ∧ Has w' p 33 (refC (prepM a b) hs) ∧ But p w w' := by
  obtain ⟨w1, hw1, hB, hbw⟩ := one_var w 29 (balC b)
  have hlt := h.lt
  have hA := h.later hbw
  have hE : Hid _ := errP_cases a.pro b
  go_enter Try.func14, Try.ntmps14
  go_wp2_with (first
    | (refine load_bal b (by rfl) _ rfl w.heap.size rfl ?hg ?_; (case hg => exact hB)))
  refine (ris_any b _ hb).mono ?_
  rintro e w2 ⟨rfl, hq⟩
  replace hA := hA.later hq
  replace hB := hB.later hq
  replace hbw := hbw.trans (hq.mono hbw.size)
  clear hq
  rcases hE.out with ⟨h1, h2⟩ | ⟨h1, h2, h3⟩ | ⟨h1, h2, h3⟩
  · have hP : Hid (prepM a b = a) := by show _ = _; unfold prepM; rw [h1]; rfl
    have h1' : Hid _ := h1
    rw [h2]
    clear h1 h2 hE
    go_wp2
    go_ret
    exact ⟨by rw [h1'.out]; rfl, by rw [hP.out]; exact hA, But.of hbw⟩
  all_goals
    rw [h2]
    have h1' : Hid _ := h1
    clear h1 h2 hE
    go_wp2
    refine wp_region_plan (fun W => (Has W p 33 (refC a hs) ∧ Has W w.heap.size 29 (balC b)) ∧ Below w.heap.size w W) (Plan.of [(0, true), (1, true), (2, true), (3, true), (4, true), (5, false)] .done) (by kernel_rfl) (by kernel_rfl) (by kernel_rfl) (by kernel_rfl) ⟨⟨hA.drew, hB.drew⟩, hbw.drew⟩ ?_
    refine plan_take _ _ rfl (yields_bal b (by rfl) _ rfl w.heap.size rfl (fun _ h => h.1.2)) ?_
    try simp only [Act.put, List.setIfInBounds_toArray, List.set_cons_zero, List.set_cons_succ]
    iterate 3
      first
        | (refine plan_pass _ rfl (by rfl) ?_)
        | (refine plan_take _ _ rfl (.inl ⟨by rfl, fun W hS => by clear hS; go_simp; try with_reducible rfl⟩) ?_)
      try simp only [Act.put, List.setIfInBounds_toArray, List.set_cons_zero, List.set_cons_succ]
    refine plan_take _ _ rfl (yields_bal_mid a.pro (by rfl) _ rfl p 0 rfl (fun _ h => ref_pro h.1.1)) ?_
    try simp only [Act.put, List.setIfInBounds_toArray, List.set_cons_zero, List.set_cons_succ]
    refine plan_run _ rfl (fun K hK => ?_)
    go_simp
    refine (rless_any b a.pro _ hb ha.pro).mono ?_
    rintro e w3 ⟨rfl, hq⟩
    have hA3 := hA.drew.later hq
    have hB3 := hB.drew.later hq
    have hb3 := hbw.drew.trans (hq.mono hbw.drew.size)
    refine hK.out _ _ ⟨⟨hA3, hB3⟩, hb3⟩ ?_
    clear hK K hq hA hB hbw
    refine plan_done ?_
    rw [h3]
    clear h3
  · have hP : Hid (prepM a b = a) := by show _ = _; unfold prepM; rw [h1'.out]; rfl
    go_wp2
    go_ret
    exact ⟨by rw [h1'.out]; rfl, by rw [hP.out]; exact hA3, But.of hb3⟩
  · have hP : Hid (prepM a b = { a with pro := b }) := by show _ = _; unfold prepM; rw [h1'.out]; rfl
    have ht : Hid (w3.there p 0 (balC b).size) := hA3.there 0 2 (by show 0 + 2 ≤ 8; omega)
    have hA4 := hA3.rsetPro b
    have hb4 := (But.of (p := p) hb3).trans (but_setCells (w := w3) (p := p) (balC b).toList 0)
    go_wp2_with (first
      | (refine load_bal b (by rfl) _ rfl w.heap.size rfl ?hg ?_; (case hg => exact hB3))
      | (refine wpList_store_mid' (by rfl) 29 _ _ rfl p 0 (balC b) rfl rfl ?hg (bal_size b) (bal_one b) ?_; (case hg => exact ht.out)))
    go_ret
    exact ⟨by rw [h1'.out]; rfl, by rw [hP.out]; exact hA4, hb4⟩

set_option maxHeartbeats 4000000 in
theorem raccept_any (p : Nat) (a : AccV) (hs : Bool) (b : BalV) (x : IncV) (w : World) (h : Has w p 33 (refC a hs)) (ha : AccOk a) (hb : BalOk b) (hx : IncOk x) :
    Calls Try.prog 12 #[.pointer (some ⟨p, 0, none⟩), .agg (balC b), .agg (incC x)] w fun e w' => e = .returned (.int .i64 (errA a.pro b x : Nat)) ∧ Has w' p 33 (refC (accM a b x) (hasN (errA a.pro b x) hs)) ∧ But p w w' := by
  obtain ⟨w1, hw1, hB, hX, hbw⟩ := two_vars w 29 31 (balC b) (incC x)
  have hlt := h.lt
  have hA := h.later hbw
  go_enter Try.func12, Try.ntmps12
  go_wp2_with (first
    | (refine load_bal b (by rfl) _ rfl w.heap.size rfl ?hg ?_; (case hg => exact hB)))
  refine (ris_any b _ hb).mono ?_
  rintro e w2 ⟨rfl, hq⟩
  replace hA := hA.later hq
  replace hB := hB.later hq
  replace hX := hX.later hq
  replace hbw := hbw.trans (hq.mono hbw.size)
  clear hq hw1
  cases hi : isB b with
  | false =>
    have hE : errA a.pro b x = 10 := by unfold errA errP; rw [hi]; cases isInc x <;> rfl
    have hM : accM a b x = a := by unfold accM; rw [hE]; rfl
    replace hE : Hid _ := hE
    replace hM : Hid _ := hM
    clear hi
    go_wp2
    go_ret
    exact ⟨by rw [hE.out]; rfl, by rw [hM.out, hE.out]; exact hA, But.of hbw⟩
  | true =>
    go_wp2_with (first
      | (refine load_inc x (by rfl) _ rfl (w.heap.size + 1) rfl ?hg ?_; (case hg => exact hX)))
    refine (refisinc_any x _ hx).mono ?_
    rintro e w3 ⟨rfl, hq⟩
    replace hA := hA.later hq
    replace hB := hB.later hq
    replace hX := hX.later hq
    replace hbw := hbw.trans (hq.mono hbw.size)
    clear hq
    cases hj : isInc x with
    | false =>
      have hE : errA a.pro b x = 10 := by unfold errA; rw [hj]; rfl
      have hM : accM a b x = a := by unfold accM; rw [hE]; rfl
      replace hE : Hid _ := hE
      replace hM : Hid _ := hM
      clear hi hj
      go_wp2
      go_ret
      exact ⟨by rw [hE.out]; rfl, by rw [hM.out, hE.out]; exact hA, But.of hbw⟩
    | true =>
      have hE : errA a.pro b x = if lessB b a.pro = true then 100 else 0 := by unfold errA errP; rw [hi, hj]; rfl
      clear hi hj
      go_wp2
      refine wp_region_plan (fun W => (Has W p 33 (refC a hs) ∧ Has W w.heap.size 29 (balC b)) ∧ Below w.heap.size w W) (Plan.of [(0, true), (1, true), (2, true), (3, true), (4, true), (5, false)] .done) (by kernel_rfl) (by kernel_rfl) (by kernel_rfl) (by kernel_rfl) ⟨⟨hA.drew, hB.drew⟩, hbw.drew⟩ ?_
      refine plan_take _ _ rfl (yields_bal b (by rfl) _ rfl w.heap.size rfl (fun _ h => h.1.2)) ?_
      try simp only [Act.put, List.setIfInBounds_toArray, List.set_cons_zero, List.set_cons_succ]
      iterate 3
        first
          | (refine plan_pass _ rfl (by rfl) ?_)
          | (refine plan_take _ _ rfl (.inl ⟨by rfl, fun W hS => by clear hS; go_simp; try with_reducible rfl⟩) ?_)
        try simp only [Act.put, List.setIfInBounds_toArray, List.set_cons_zero, List.set_cons_succ]
      refine plan_take _ _ rfl (yields_bal_mid a.pro (by rfl) _ rfl p 0 rfl (fun _ h => ref_pro h.1.1)) ?_
      try simp only [Act.put, List.setIfInBounds_toArray, List.set_cons_zero, List.set_cons_succ]
      refine plan_run _ rfl (fun K hK => ?_)
      go_simp
      refine (rless_any b a.pro _ hb ha.pro).mono ?_
      rintro e w4 ⟨rfl, hq⟩
      have hA4 := hA.drew.later hq
      have hB4 := hB.drew.later hq
      have hX4 := hX.drew.later hq
      have hb4 := hbw.drew.trans (hq.mono hbw.drew.size)
      refine hK.out _ _ ⟨⟨hA4, hB4⟩, hb4⟩ ?_
      clear hK K hq hA hB hX hbw
      refine plan_done ?_
      cases hl : lessB b a.pro with
      | true =>
        rw [hl, if_pos rfl] at hE
        have hM : accM a b x = a := by unfold accM; rw [hE]; rfl
        replace hE : Hid _ := hE
        replace hM : Hid _ := hM
        clear hl
        go_wp2
        go_ret
        exact ⟨by rw [hE.out]; rfl, by rw [hM.out, hE.out]; exact hA4, But.of hb4⟩
      | false =>
        rw [hl, if_neg (by decide)] at hE
        have hM : accM a b x = ⟨b, b, x⟩ := by unfold accM; rw [hE]; rfl
        replace hE : Hid _ := hE
        replace hM : Hid _ := hM
        clear hl
        have hB5 := hB4.drew.cells_other (k := p) (by omega) (balC b).toList 0
        have hX5 := hX4.drew.cells_other (k := p) (by omega) (balC b).toList 0
        have hA5 := hA4.drew.rsetPro b
        have hB6 := hB5.cells_other (k := p) (by omega) (balC b).toList 2
        have hX6 := hX5.cells_other (k := p) (by omega) (balC b).toList 2
        have hA6 := hA5.rsetAcc b
        have hB7 := hB6.cells_other (k := p) (by omega) (incC x).toList 4
        have hX7 := hX6.cells_other (k := p) (by omega) (incC x).toList 4
        have hA7 := hA6.rsetInc x
        have hq7 := ((But.of (p := p) hb4).trans (But.of (p := p) ((Below.refl w4.heap.size w4).drew))).trans (((but_setCells (w := w4.drew) (p := p) (balC b).toList 0).trans (but_setCells (p := p) (balC b).toList 2)).trans (but_setCells (p := p) (incC x).toList 4))
        go_wp2
        refine wp_region_plan (fun W => Has W w.heap.size 29 (balC b) ∧ Has W (w.heap.size + 1) 31 (incC x)) (Plan.of [(0, true), (1, true), (2, true), (3, true), (4, true), (5, true), (6, true), (7, true), (8, true), (9, false), (10, true), (11, true), (12, false), (13, true), (14, true), (15, false), (16, true), (17, true), (18, false)] .done) (by kernel_rfl) (by kernel_rfl) (by kernel_rfl) (by kernel_rfl) ⟨hB4.drew, hX4.drew⟩ ?_
        iterate 4
          first
            | (refine plan_pass _ rfl (by rfl) ?_)
            | (refine plan_take _ _ rfl (.inl ⟨by rfl, fun W hS => by clear hS; go_simp; try with_reducible rfl⟩) ?_)
          try simp only [Act.put, List.setIfInBounds_toArray, List.set_cons_zero, List.set_cons_succ]
        refine plan_take _ _ rfl (yields_bal b (by rfl) _ rfl w.heap.size rfl (fun _ h => h.1)) ?_
        try simp only [Act.put, List.setIfInBounds_toArray, List.set_cons_zero, List.set_cons_succ]
        refine plan_take _ _ rfl (yields_bal b (by rfl) _ rfl w.heap.size rfl (fun _ h => h.1)) ?_
        try simp only [Act.put, List.setIfInBounds_toArray, List.set_cons_zero, List.set_cons_succ]
        refine plan_take _ _ rfl (yields_inc x (by rfl) _ rfl (w.heap.size + 1) rfl (fun _ h => h.2)) ?_
        try simp only [Act.put, List.setIfInBounds_toArray, List.set_cons_zero, List.set_cons_succ]
        iterate 2
          first
            | (refine plan_pass _ rfl (by rfl) ?_)
            | (refine plan_take _ _ rfl (.inl ⟨by rfl, fun W hS => by clear hS; go_simp; try with_reducible rfl⟩) ?_)
          try simp only [Act.put, List.setIfInBounds_toArray, List.set_cons_zero, List.set_cons_succ]
        refine plan_store_mid rfl (by rfl) 29 _ _ rfl p 0 (balC b) rfl rfl (hA4.drew.there 0 2 (by show 0 + 2 ≤ 8; omega)) (bal_size b) (bal_one b) ⟨hB5, hX5⟩ ?_
        try simp only [Act.put, List.setIfInBounds_toArray, List.set_cons_zero, List.set_cons_succ]
        iterate 2
          first
            | (refine plan_pass _ rfl (by rfl) ?_)
            | (refine plan_take _ _ rfl (.inl ⟨by rfl, fun W hS => by clear hS; go_simp; try with_reducible rfl⟩) ?_)
          try simp only [Act.put, List.setIfInBounds_toArray, List.set_cons_zero, List.set_cons_succ]
        refine plan_store_mid rfl (by rfl) 29 _ _ rfl p 2 (balC b) rfl rfl (hA5.there 2 2 (by show 2 + 2 ≤ 8; omega)) (bal_size b) (bal_one b) ⟨hB6, hX6⟩ ?_
        try simp only [Act.put, List.setIfInBounds_toArray, List.set_cons_zero, List.set_cons_succ]
        iterate 2
          first
            | (refine plan_pass _ rfl (by rfl) ?_)
            | (refine plan_take _ _ rfl (.inl ⟨by rfl, fun W hS => by clear hS; go_simp; try with_reducible rfl⟩) ?_)
          try simp only [Act.put, List.setIfInBounds_toArray, List.set_cons_zero, List.set_cons_succ]
        refine plan_store_mid rfl (by rfl) 31 _ _ rfl p 4 (incC x) rfl rfl (hA6.there 4 3 (by show 4 + 3 ≤ 8; omega)) (inc_size x) (inc_one x) ⟨hB7, hX7⟩ ?_
        try simp only [Act.put, List.setIfInBounds_toArray, List.set_cons_zero, List.set_cons_succ]
        clear hA5 hA6 hB5 hB6 hX5 hX6
        generalize ((w4.drew.setCells p 0 (balC b).toList).setCells p 2 (balC b).toList).setCells p 4 (incC x).toList = w8 at *
        iterate 2
          first
            | (refine plan_pass _ rfl (by rfl) ?_)
            | (refine plan_take _ _ rfl (.inl ⟨by rfl, fun W hS => by clear hS; go_simp; try with_reducible rfl⟩) ?_)
          try simp only [Act.put, List.setIfInBounds_toArray, List.set_cons_zero, List.set_cons_succ]
        have c7 := ref_has hA7
        have f7 := hA7.free 7
        refine plan_run _ rfl (fun K hK => ?_)
        go_simp
        refine hK.out _ _ ⟨hB7.set_other (a := ⟨p, 7, none⟩) (show w.heap.size ≠ p by omega) _, hX7.set_other (a := ⟨p, 7, none⟩) (show w.heap.size + 1 ≠ p by omega) _⟩ ?_
        clear hK K
        refine plan_done ?_
        have hA8 := hA7.rsetHas true
        have hq8 := hq7.trans (but_setCells (w := w8) (p := p) [.bool true] 7)
        go_wp2
        go_ret
        exact ⟨by rw [hE.out]; rfl, by rw [hM.out, hE.out]; exact hA8, hq8⟩
end Go.Proofs.Ytlcappkokdgpgaa
