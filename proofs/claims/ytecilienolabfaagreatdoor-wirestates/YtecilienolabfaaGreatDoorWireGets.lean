/- WireGet, WireGetSt, WirePut, joined. -/
import Derived.Test.YtecilienolabfaaGreatDoorPackRead
import Derived.Test.YtecilienolabfaaGreatDoorRefAll
import Derived.Test.YtecilienolabfaaGreatDoorWireEnc
namespace Go.Proofs.YtecilienolabfaaGreatDoor
set_option linter.unusedSimpArgs false
set_option linter.unusedVariables false
set_option maxRecDepth 100000
open Go.RowKit

set_option maxHeartbeats 2000000 in
theorem wcopied_any (ao : Option Addr) (c : Nat) (xs : List UInt8) (w : World) (h : By w ao c xs) (hl : xs.length ≤ 100000) : Calls Tryz.prog 58 #[.slice ao xs.length c] w fun e w' => ∃ v, e = .returned v ∧ OwnV w' w.heap.size v xs ∧ Below w.heap.size w w' := by
  have hn0 : w.ownsRow w.heap.size 5 1 (.slice none 0 0) 0 (Bs []) := World.ownsRow_nil _ _ _ _
  cases ao with
  | none =>
    have hc := h.nil rfl
    have hle := h.le
    have hx : xs = [] := List.eq_nil_of_length_eq_zero (by omega)
    subst hx hc
    have hown : OwnV w w.heap.size (.slice none 0 0) [] := ⟨hn0, Nat.le_refl _, by decide⟩
    obtain ⟨i0, hi, hz0, hz1, hz2⟩ := info_parts Tryz.infoByte
    have hr := run_append_owned_none (P := Tryz.prog) (w := w) w.heap.size 51 51 5 i0 1 Tryz.underlying51 hi (.slice none 0 0) 0 (Bs []) hn0
    go_enter Tryz.func58, Tryz.ntmps58
    go_wp2_with (first
      | (at_builtin; refine wpList_appendW (by rfl) _ _ 51 51 rfl (.slice none 0 0) (.slice none 0 0) rfl rfl (.slice none 0 0) w ?hr ?_; (case hr => exact hr))
      | fail)
    go_ret
    exact ⟨_, rfl, hown, Below.refl _ _⟩
  | some ad =>
    obtain ⟨v5, w5, hr5, hown5, hg5⟩ := run_appB w 51 w.heap.size (.slice none 0 0) 0 [] hn0 ad xs.length c xs h rfl (by omega) (Nat.le_refl _)
    have hb5 : Below w.heap.size w w5 := (Below.refl _ _).grown hg5 (Nat.le_refl _) (fun k hk => by cases hk)
    have hown : Hid (OwnV w5 w.heap.size v5 xs) := ⟨by rw [Nat.zero_add, List.nil_append] at hown5; exact hown5, hb5.size, hl⟩
    clear hown5 hg5
    go_enter Tryz.func58, Tryz.ntmps58
    go_wp2_with (first
      | (at_builtin; refine wpList_appendW (by rfl) _ _ 51 51 rfl (.slice none 0 0) (.slice (some ad) xs.length c) rfl rfl v5 w5 ?hr ?_; (case hr => exact hr5))
      | fail)
    go_ret
    exact ⟨_, rfl, hown.out, hb5⟩
set_option maxHeartbeats 4000000 in
theorem rdstate_any (p : Nat) (X : Nat → Prop) (xs : List UInt8) (w : World) (hI : GetI p X w xs (fun j => j = p)) (hp : p < w.heap.size) :
    Calls Tryz.prog 63 #[.pointer (some ⟨p, 0, none⟩)] w fun e w' => OffF (fun j => j = p) w w' ∧ ((∃ x r go gc F, readStM xs = .ok (x, r) ∧ e = .returned (.agg (stC x go gc)) ∧ Sl w' go gc 8 (entR x.log) ∧ (∀ d, go = some d → w.heap.size ≤ d.block) ∧ GetI p X w' r F) ∨ ∃ k, readStM xs = .error k ∧ e = thrown k ∧ ∃ v, Has w' p 119 #[v]) := by
  obtain ⟨w1, hw1, hR, hb⟩ := one_var w 44 (stC st0 none 0)
  have hI1 := get_kept p X w w1 xs _ hI hb.size (fun k hk _ => hb.block k hk)
  have hcall := wstate_any (get_coder p X) w1 xs (fun j => j = p) st0 none 0 hI1 stW0 (SlF.nothing _ _) Bare.no
  unfold getV at hcall
  replace hcall : Hid _ := hcall
  have hM : Hid (readStM xs = match statM GetC st0 xs with
    | .error n => .error n
    | .ok (s, r) => if isSt s = true then .ok (s, r) else .error 10) := rfl
  have hXl : Hid (∀ k, X k → k < w.heap.size) := by obtain ⟨_, _, _, _, _, _, _, h6, _⟩ := hI; exact h6
  have hHp : Hid (∃ v, Has w1 p 119 #[v]) := by obtain ⟨ao, c, h1, _⟩ := hI1; exact ⟨_, h1⟩
  clear hI hI1
  go_enter Tryz.func63, Tryz.ntmps63
  go_wp2_with (first
    | (refine wpList_alloc_has (by rfl) 44 rfl (stC st0 none 0) st_zero ?_; rw [hw1]; clear hw1)
    | (refine wpList_build_l (by rfl) 44 [] rfl [] rfl (stC st0 none 0) st_built0 ?_)
    | fail)
  refine Calls.mono hcall.out ?_
  intro e w2 h2
  clear hcall
  have hRp : w.heap.size ≠ p := by omega
  cases hr : statM GetC st0 xs with
  | error k =>
    rw [hr] at h2 hM
    obtain ⟨rfl, F2, hs2⟩ := h2
    have o2 : OffF (fun j => j = p) w w2 := (OffF.of hb).trans hs2.off
    obtain ⟨v1, hv1⟩ := hHp.out
    have hHq : Hid (∃ v, Has w2 p 119 #[v]) := hs2.keep p 119 v1 (by decide) hv1
    clear hs2 hr hv1
    unfold thrown
    go_wp2
    exact ⟨rfl, o2, .inr ⟨k, hM.out, rfl, hHq.out⟩⟩
  | ok q =>
    obtain ⟨x, r⟩ := q
    rw [hr] at h2 hM
    obtain ⟨F2, g, rfl, hN, hI2, hs2⟩ := h2
    have hok := (stat_was hr).1.ok
    have hS : Sl w2 (some ⟨g, 0, none⟩) x.log.length 8 (entR x.log) := hN.has.ents (by have := hok.len; omega)
    have hgn := hN.new
    have hw1l := hR.lt
    replace hR := hs2.off.has hR hRp
    have o2 : OffF (fun j => j = p) w w2 := (OffF.of hb).trans hs2.off
    clear hs2 hr hN hb
    obtain ⟨w3, hw3, hV, hq⟩ := new_var w2 44 (stC st0 none 0) (stC x (some ⟨g, 0, none⟩) x.log.length)
    replace hR := hR.later hq
    replace hS := hS.later hq
    replace hI2 := get_kept p X w2 w3 r _ hI2 hq.size (fun k hk _ => hq.block k hk)
    replace o2 := o2.trans (OffF.of hq)
    have his := is_any7 x (some ⟨g, 0, none⟩) x.log.length w3 hok hS
    replace his : Hid _ := his
    clear hq
    go_wp2_with (first
      | (refine wpList_alloc_has (by rfl) 44 rfl (stC st0 none 0) st_zero ?_)
      | (refine wpList_store_to (by rfl) 44 _ _ rfl w2.heap.size rfl (stC x (some ⟨g, 0, none⟩) x.log.length) rfl 44 (stC st0 none 0) (st_size _ _ _) rfl (st_one _ _ _) ?hg w3 ?hW ?_; (case hg => exact Has.new _ _ _); (case hW => exact hw3); clear hw3)
      | (refine wpList_load_has (by rfl) 44 _ rfl w2.heap.size rfl 44 (stC x (some ⟨g, 0, none⟩) x.log.length) _ Tryz.underlying44 rfl (st_size _ _ _) ?hg ?_; (case hg => exact hV))
      | fail)
    refine Calls.mono his.out ?_
    rintro en w4 ⟨rfl, hq⟩
    clear his
    replace hR := hR.later hq
    replace hV := hV.later hq
    replace hS := hS.later hq
    replace hI2 := get_kept p X w3 w4 r _ hI2 hq.size (fun k hk _ => hq.block k hk)
    replace o2 := o2.trans (OffF.of hq)
    clear hq
    cases hi : isSt x with
    | true =>
      have hM0 : Hid (readStM xs = .ok (x, r)) := by
        have := hM.out
        simp only [hi, if_true] at this
        exact this
      replace hi : Hid _ := hi
      go_wp2_with fail
      refine (must_yes 10 _).mono ?_
      rintro en w5 ⟨rfl, rfl⟩
      have hRr := hR.row (stC x (some ⟨g, 0, none⟩) x.log.length)
      have hBt : But w.heap.size w5 (w5.setRow w.heap.size (stC x (some ⟨g, 0, none⟩) x.log.length)) := but_row _ _
      have hE : Hid (OffF (fun j => j = p) w (w5.setRow w.heap.size (stC x (some ⟨g, 0, none⟩) x.log.length)) ∧ Sl (w5.setRow w.heap.size (stC x (some ⟨g, 0, none⟩) x.log.length)) (some ⟨g, 0, none⟩) x.log.length 8 (entR x.log) ∧ GetI p X (w5.setRow w.heap.size (stC x (some ⟨g, 0, none⟩) x.log.length)) r F2) := by
        refine ⟨o2.fresh hBt (Nat.le_refl _), hS.row_other (k := w.heap.size) (fun d hd => by obtain rfl := Option.some.inj hd; show g ≠ _; omega) _, ?_⟩
        refine get_kept p X w5 _ r F2 hI2 hBt.size (fun k hk hk2 => hBt.block k hk ?_)
        obtain ⟨ao, c, h1, h2, h3, h4, h5, h6, h7⟩ := hI2
        rcases hk2 with z | z
        · rw [(h4 k).1 z]; omega
        · have := hXl.out k z; omega
      clear hS hI2 o2
      go_wp2_with (first
        | (refine wpList_load_has (by rfl) 44 _ rfl w2.heap.size rfl 44 (stC x (some ⟨g, 0, none⟩) x.log.length) _ Tryz.underlying44 rfl (st_size _ _ _) ?hg ?_; (case hg => exact hV))
        | (refine wpList_store_has (by rfl) 44 _ _ rfl w.heap.size rfl (stC x (some ⟨g, 0, none⟩) x.log.length) rfl 44 (stC st0 none 0) (st_size _ _ _) rfl (st_one _ _ _) ?hg ?_; (case hg => exact hR))
        | fail)
      exact ret_has rfl w.heap.size rfl 44 (stC x (some ⟨g, 0, none⟩) x.log.length) _ Tryz.underlying44 rfl (st_size _ _ _) hRr rfl ⟨hE.out.1, .inl ⟨x, r, _, _, F2, hM0.out, rfl, hE.out.2.1, fun d hd => by obtain rfl := Option.some.inj hd; show w.heap.size ≤ g; omega, hE.out.2.2⟩⟩
    | false =>
      have hM0 : Hid (readStM xs = .error 10) := by
        have := hM.out
        simp only [hi, Bool.false_eq_true, if_false] at this
        exact this
      replace hi : Hid _ := hi
      go_wp2_with fail
      refine (must_no 10 _).mono ?_
      rintro en w5 ⟨rfl, rfl⟩
      go_wp2
      exact ⟨rfl, o2, .inr ⟨10, hM0.out, rfl, by obtain ⟨ao, c, h1, _⟩ := hI2; exact ⟨_, h1⟩⟩⟩
/-- What a getter's state may leave: it and the state's variable. -/
def GsR (p q : Nat) (X : Nat → Prop) (B : Nat) (w w' : World) (x : StV) (r : List UInt8) : Prop := ∃ go gc F, Has w' q 44 (stC x go gc) ∧ Sl w' go gc 8 (entR x.log) ∧ (∀ d, go = some d → B ≤ d.block) ∧ GetI p X w' r F ∧ OffF (fun j => j = p ∨ j = q) w w'
theorem OffF.wide {F G : Nat → Prop} {w w' : World} (h : OffF F w w') (k : ∀ j, F j → G j) : OffF G w w' := ⟨h.os, h.tape, h.output, h.size, fun i hi hn => h.block i hi (fun z => hn (k i z))⟩
set_option maxHeartbeats 4000000 in
theorem getst1_any (p q : Nat) (X : Nat → Prop) (xs : List UInt8) (w : World) (hI : GetI p X w xs (fun j => j = p)) (hp : p < w.heap.size) (hq : Has w q 44 (stC st0 none 0)) (hpq : p ≠ q) (hXq : ¬ X q) :
    Calls Tryz.prog 62 #[.pointer (some ⟨p, 0, none⟩), .pointer (some ⟨q, 0, none⟩)] w fun e w' => (∃ x r, readStM xs = .ok (x, r) ∧ e = .returned (.tuple #[]) ∧ GsR p q X w.heap.size w w' x r) ∨ ∃ k, readStM xs = .error k ∧ e = thrown k ∧ OffF (fun j => j = p) w w' ∧ ∃ v, Has w' p 119 #[v] := by
  have hrd := rdstate_any p X xs w hI hp
  replace hrd : Hid _ := hrd
  have hql := hq.lt
  clear hI
  go_enter Tryz.func62, Tryz.ntmps62
  go_wp2_with fail
  refine Calls.mono hrd.out ?_
  rintro e w1 ⟨o1, hh⟩
  clear hrd
  have hq1 := o1.has hq (fun z => hpq (show q = p from z).symm)
  rcases hh with ⟨x, r, go, gc, F, hM, rfl, hS, hfar, hI1⟩ | ⟨k, hM, rfl, hvp⟩
  · have hqr := hq1.row (stC x go gc)
    have hBt : But q w1 (w1.setRow q (stC x go gc)) := but_row _ _
    have hE : Hid (GsR p q X w.heap.size w (w1.setRow q (stC x go gc)) x r) := by
      refine ⟨go, gc, F, hqr, hS.row_other (k := q) (fun d hd => by have := hfar d hd; omega) _, hfar, ?_, (o1.wide (fun j hj => .inl hj)).trans ((OffF.but hBt).wide (fun j hj => .inr hj))⟩
      refine get_kept p X w1 _ r F hI1 hBt.size (fun k hk hk2 => hBt.block k hk ?_)
      obtain ⟨ao, c, h1, h2, h3, h4, h5, h6, h7⟩ := hI1
      rcases hk2 with z | z
      · rw [(h4 k).1 z]; exact hpq
      · exact fun e => hXq (e ▸ z)
    replace hM : Hid _ := hM
    clear hS hI1 o1 hfar
    go_wp2_with (first
      | (refine wpList_store_has (by rfl) 44 _ _ rfl q rfl (stC x go gc) rfl 44 (stC st0 none 0) (st_size _ _ _) rfl (st_one _ _ _) ?hg ?_; (case hg => exact hq1))
      | fail)
    go_end0
    exact .inl ⟨x, r, hM.out, rfl, hE.out⟩
  · replace hM : Hid _ := hM
    unfold thrown
    go_wp2
    exact ⟨rfl, .inr ⟨k, hM.out, rfl, o1, hvp⟩⟩
/-- caught over GetState's closure. -/
theorem caught_gst (p q : Nat) (X : Nat → Prop) (xs : List UInt8) (w : World) (hI : GetI p X w xs (fun j => j = p)) (hp : p < w.heap.size) (h0 : p ≠ 0) (hq : Has w q 44 (stC st0 none 0)) (hpq : p ≠ q) (hXq : ¬ X q) (hL : Laid w) :
    Calls Tryz.prog 53 #[.func (.func 62) #[] #[.pointer (some ⟨p, 0, none⟩), .pointer (some ⟨q, 0, none⟩)]] w fun e w' => (∃ x r, readStM xs = .ok (x, r) ∧ e = .returned (.int .i64 0) ∧ GsR p q X w.heap.size w w' x r) ∨ ∃ k, readStM xs = .error k ∧ e = .returned (.int .i64 (k : Nat)) ∧ OffF (fun j => j = p) w w' ∧ ∃ v, Has w' p 119 #[v] := by
  have hb : Below w.heap.size w (w.alloc (.cells #[.int .i64 10] 52)) := (Below.refl _ _).alloc (Nat.le_refl _) _
  have hsz : (w.alloc (.cells #[.int .i64 10] 52)).heap.size = w.heap.size + 1 := by simp
  have hE : Has (w.alloc (.cells #[.int .i64 10] 52)) w.heap.size 52 #[.int .i64 10] := Has.new _ _ _
  have hd := getst1_any p q X xs _ (get_kept p X w _ xs _ hI hb.size (fun k hk _ => hb.block k hk)) (by omega) (hq.later hb) hpq hXq
  have hql := hq.lt
  have hLa := hL.next hb
  have hXl : ∀ k, X k → k < w.heap.size := by obtain ⟨_, _, _, _, _, _, _, h6, _⟩ := hI; exact h6
  cases hr : readStM xs with
  | ok y =>
    obtain ⟨x, r⟩ := y
    refine (wcaught_gst_ok _ _ w (fun w1 => GsR p q X (w.alloc (.cells #[.int .i64 10] 52)).heap.size (w.alloc (.cells #[.int .i64 10] 52)) w1 x r) (hd.mono ?_) ?_).mono ?_
    · rintro e w1 (⟨x', r', hm', rfl, hh⟩ | ⟨k, hk, _⟩)
      · rw [hr] at hm'
        obtain ⟨rfl, rfl⟩ := Prod.mk.inj (Except.ok.inj hm')
        exact ⟨rfl, hh⟩
      · rw [hr] at hk; cases hk
    · rintro w1 ⟨go, gc, F, h1, h2, h3, h4, h5⟩
      have := h5.has hE (fun z => by rcases z with z | z <;> omega)
      exact ⟨this.cell 0, this.free 0⟩
    · rintro e w' ⟨rfl, w1, ⟨go, gc, F, h1, h2, h3, h4, h5⟩, rfl⟩
      have hBt : But w.heap.size w1 (w1.setCell ⟨w.heap.size, 0, none⟩ (.int .i64 0)) := but_cell _ _ _
      refine .inl ⟨x, r, rfl, rfl, go, gc, F, hBt.has h1 (by omega), Sl.off h2 (OffF.but hBt) (fun ad had _ z => by have := h3 ad had; have : ad.block = w.heap.size := z; omega), fun ad had => by have := h3 ad had; omega, ?_, ((OffF.of hb).trans h5).fresh hBt (Nat.le_refl _)⟩
      refine get_kept p X w1 _ r F h4 hBt.size (fun k hk hk2 => hBt.block k hk ?_)
      obtain ⟨ao, c, g1, g2, g3, g4, g5, g6, g7⟩ := h4
      rcases hk2 with z | z
      · rw [(g4 k).1 z]; omega
      · have := hXl k z; omega
  | error k =>
    refine (wcaught_gst_err _ _ k w (fun w1 => OffF (fun j => j = p) (w.alloc (.cells #[.int .i64 10] 52)) w1 ∧ ∃ v, Has w1 p 119 #[v]) (hd.mono ?_) ?_).mono ?_
    · rintro e w1 (⟨x', r', hm', _⟩ | ⟨k', hk, rfl, hb1⟩)
      · rw [hr] at hm'; cases hm'
      · rw [hr] at hk
        obtain rfl := Except.error.inj hk
        exact ⟨rfl, hb1⟩
    · rintro w1 ⟨hb1, _⟩
      have := hb1.has hE (fun z => by have : w.heap.size = p := z; omega)
      exact ⟨hLa.later (hb1.below (B := p) (fun b z => by have : b = p := z; omega) (by omega)) (by omega), this.cell 0, this.free 0⟩
    · rintro e w' ⟨rfl, w1, W, ⟨hb1, v1, hv1⟩, hb2, rfl⟩
      have hBt : But w.heap.size W (W.setCell ⟨w.heap.size, 0, none⟩ (.int .i64 (k : Nat))) := but_cell _ _ _
      exact .inr ⟨k, rfl, rfl, (((OffF.of hb).trans hb1).next hb2).fresh hBt (Nat.le_refl _), v1, hBt.has (hv1.later hb2) (by omega)⟩


theorem getter_built (ao : Option Addr) (n c : Nat) : Tryz.prog.built 119 [(0, .slice ao n c)] = some #[.slice ao n c] := by kernel_rfl
theorem getSt_ok {xs : List UInt8} {x : StV} {r : List UInt8} (h : readStM xs = .ok (x, r)) : getStM xs = (x, r, 0) := by unfold getStM; rw [h]
theorem getSt_err {xs : List UInt8} {k : Nat} (h : readStM xs = .error k) : getStM xs = (st0, xs, k) := by unfold getStM; rw [h]
/-- What wire.GetState answers. -/
def GstR (w : World) (xs : List UInt8) (e : Ending) (w' : World) : Prop := Below w.heap.size w w' ∧ ∃ go gc v, e = .returned (.tuple #[.agg (stC (getStM xs).1 go gc), v, .int .i64 ((getStM xs).2.2 : Nat)]) ∧ Sl w' go gc 8 (entR (getStM xs).1.log) ∧ OwnV w' w.heap.size v (getStM xs).2.1
set_option maxHeartbeats 8000000 in
theorem wgetst_any (ao : Option Addr) (c : Nat) (xs : List UInt8) (w : World) (h : By w ao c xs) (hlt : ∀ ad, ao = some ad → ad.block < w.heap.size) (hl : xs.length ≤ 100000) (hL : Laid w) : Calls Tryz.prog 21 #[.slice ao xs.length c] w (GstR w xs) := by
  obtain ⟨w1, hw1, hR, hb1⟩ := one_var w 44 (stC st0 none 0)
  obtain ⟨w2, hw2, hP, hb2⟩ := new_var w1 119 #[.slice none 0 0] #[.slice ao xs.length c]
  obtain ⟨w3, hw3, hQ, hb3⟩ := one_var w2 44 (stC st0 none 0)
  have s1 : w.heap.size < w1.heap.size := hR.lt
  have s2 : w1.heap.size < w2.heap.size := hP.lt
  replace hR := (hR.later hb2).later hb3
  replace hP := hP.later hb3
  have hbW : Below w.heap.size w w3 := (hb1.trans (hb2.mono hb1.size)).trans (hb3.mono (Nat.le_trans hb1.size hb2.size))
  have hB3 := h.later hbW
  have hI := get_start hP hB3 (fun ad had => by have := hlt ad had; omega) (by omega)
  have hLw := hL.pos
  have hc := caught_gst w1.heap.size w2.heap.size (fun j => ∃ ad, ao = some ad ∧ j = ad.block) xs w3 hI hP.lt (by omega) hQ (by omega) (by rintro ⟨ad, had, q⟩; have := hlt ad had; omega) (hL.next hbW)
  have hXl : Hid (∀ j, (∃ ad, ao = some ad ∧ j = ad.block) → j < w.heap.size) := by rintro j ⟨ad, had, rfl⟩; exact hlt ad had
  have hmf : ∀ (fn : Fn) (first cap : Array Value) (w : World), (Instr.makeFunc fn first cap).run Tryz.prog w = .ok (.func fn first cap) w := fun _ _ _ _ => rfl
  have hle := hB3.le
  have hcap := hB3.cap
  replace hc : Hid _ := hc
  replace s1 : Hid _ := s1
  replace s2 : Hid _ := s2
  replace hlt : Hid _ := hlt
  clear hL hb1 hb2 hb3 hI hLw h
  go_enter Tryz.func21, Tryz.ntmps21
  go_wp2_with (first
    | (refine wpList_alloc_has (by rfl) 44 rfl (stC st0 none 0) st_zero ?_; first | (rw [hw1]; clear hw1) | (rw [hw3]; clear hw3))
    | (refine wpList_build_one (by rfl) 119 0 _ rfl (.slice ao xs.length c) rfl #[.slice ao xs.length c] (getter_built _ _ _) ?_)
    | (refine wpList_alloc_has (by rfl) 119 rfl #[.slice none 0 0] getter_zero ?_)
    | (refine wpList_store_to (by rfl) 119 _ _ rfl w1.heap.size rfl #[.slice ao xs.length c] rfl 119 #[.slice none 0 0] (getter_size _) rfl (slice_one _ _ _) ?hg w2 ?hW ?_; (case hg => exact Has.new _ _ _); (case hW => exact hw2); clear hw2)
    | fail)
  refine Calls.mono hc.out ?_
  intro e w4 hh
  clear hc
  rcases hh with ⟨x, r, hM, rfl, go, gc, F, hV, hSl, hfar, hI4, o4⟩ | ⟨k, hM, rfl, o4, vp, hvp⟩
  · have hD : Hid (getStM xs = (x, r, 0)) := getSt_ok hM
    replace hR := o4.has hR (fun z => by have := s1.out; have := s2.out; rcases z with z | z <;> omega)
    have hb5 : Below w.heap.size w w4 := hbW.trans (o4.below (fun b z => by have := s1.out; have := s2.out; rcases z with z | z <;> omega) hbW.size)
    obtain ⟨A, C, hP4, hBr, hX4⟩ := hI4.cell
    have hrl : r.length ≤ 100000 := by
      have hw := hM
      unfold readStM at hw
      cases hs : statM GetC st0 xs with
      | error n => rw [hs] at hw; cases hw
      | ok y =>
        obtain ⟨y1, y2⟩ := y
        rw [hs] at hw
        have e2 := (stat_was hs).2
        have hy : y2 = r := by
          replace hw : (if isSt y1 = true then Except.ok (y1, y2) else Except.error 10) = Except.ok (x, r) := hw
          split at hw
          · injection hw with hw
            injection hw
          · cases hw
        have := congrArg List.length e2
        rw [List.length_append, hy] at this
        omega
    replace hfar : ∀ d, go = some d → w.heap.size < d.block := fun d hd => by have := hfar d hd; have := hbW.size; have := s1.out; have := s2.out; have := hQ.lt; omega
    have hP := hP4
    clear hM hI4 hP4 hX4 o4 hbW hB3 hQ
    have hcp := wcopied_any A C r w4.drew (hBr.later (Below.refl _ _).drew) hrl
    replace hcp : Hid _ := hcp
    replace hV := hV.drew
    replace hP := hP.drew
    replace hR := hR.drew
    have hSd : Hid (Sl w4.drew go gc 8 (entR x.log)) := hSl.later (Below.refl _ _).drew
    have hbd : Hid (Below w.heap.size w w4.drew) := hb5.trans ((Below.refl _ _).drew.mono hb5.size)
    have hfd : Hid (∀ d : Addr, go = some d → w.heap.size < d.block) := hfar
    have hq0 : w2.heap.size ≠ w.heap.size := by have := s1.out; have := s2.out; omega
    have hp0 : w1.heap.size ≠ w.heap.size := by have := s1.out; omega
    have hle9 := hBr.le
    have hcap9 := hBr.cap
    clear hSl hb5 hfar hBr
    go_wp2_with fail
    refine wp_region_plan (fun W => Has W w2.heap.size 44 (stC x go gc) ∧ Has W w1.heap.size 119 #[.slice A r.length C]) (Plan.of [(0, true), (1, true), (2, true), (4, true), (3, false), (5, false), (6, true), (7, true)] .done) (by kernel_rfl) (by kernel_rfl) (by kernel_rfl) (by kernel_rfl) ⟨hV, hP⟩ ?_
    generalize w4.drew = w6 at *
    refine plan_take _ _ rfl (yields_load_has (by rfl) 44 _ rfl w2.heap.size rfl 44 (stC x go gc) _ Tryz.underlying44 rfl (st_size _ _ _) (fun W hW => hW.1)) ?_
    try simp only [Act.put, List.setIfInBounds_toArray, List.set_cons_zero, List.set_cons_succ]
    iterate 1
      first
        | (refine plan_pass _ rfl (by rfl) ?_)
        | (refine plan_take _ _ rfl (.inl ⟨by rfl, fun W hS => by clear hS; go_simp; try with_reducible rfl⟩) ?_)
      try simp only [Act.put, List.setIfInBounds_toArray, List.set_cons_zero, List.set_cons_succ]
    iterate 1
      first
        | (refine plan_pass _ rfl (by rfl) ?_)
        | (refine plan_take _ _ rfl (.inl ⟨by rfl, fun W hS => by have z : W.cell? ⟨w1.heap.size, 0, none⟩ = some (.slice A r.length C) := hS.2.cell 0; go_simp; try with_reducible rfl⟩) ?_)
      try simp only [Act.put, List.setIfInBounds_toArray, List.set_cons_zero, List.set_cons_succ]
    iterate 1
      first
        | (refine plan_pass _ rfl (by rfl) ?_)
        | (refine plan_take _ _ rfl (.inl ⟨by rfl, fun W hS => by clear hS; go_simp; try with_reducible rfl⟩) ?_)
      try simp only [Act.put, List.setIfInBounds_toArray, List.set_cons_zero, List.set_cons_succ]
    refine plan_run _ rfl (fun K hK => ?_)
    go_simp
    refine Calls.mono hcp.out ?_
    rintro en w7 ⟨v7, he, hown, hq7⟩
    subst he
    refine hK.out _ _ ⟨hV.later hq7, hP.later hq7⟩ ?_
    clear hK K hcp
    try simp only [Act.put, List.setIfInBounds_toArray, List.set_cons_zero, List.set_cons_succ]
    replace hR := hR.later hq7
    have hBt : But w.heap.size w7 (w7.setRow w.heap.size (stC x go gc)) := but_row _ _
    refine plan_store_has _ rfl (by rfl) 44 _ _ rfl w.heap.size rfl (stC x go gc) rfl 44 (stC st0 none 0) (st_size _ _ _) rfl (st_one _ _ _) hR ⟨hBt.has (hV.later hq7) hq0, hBt.has (hP.later hq7) hp0⟩ ?_
    try simp only [Act.put, List.setIfInBounds_toArray, List.set_cons_zero, List.set_cons_succ]
    iterate 2
      first
        | (refine plan_pass _ rfl (by rfl) ?_)
        | (refine plan_take _ _ rfl (.inl ⟨by rfl, fun W hS => by clear hS; go_simp; try with_reducible rfl⟩) ?_)
      try simp only [Act.put, List.setIfInBounds_toArray, List.set_cons_zero, List.set_cons_succ]
    refine plan_done ?_
    have hRf := hR.row (stC x go gc)
    have hEE : Hid (GstR w xs (.returned (.tuple #[.agg (stC x go gc), v7, .int .i64 ((0 : Nat) : Int)])) (w7.setRow w.heap.size (stC x go gc))) := by
      have hb7 := hbd.out.trans (hq7.mono hbd.out.size)
      have hlt6 : w.heap.size < w6.heap.size := by have := hV.lt; have := s1.out; have := s2.out; omega
      refine ⟨below_setRow hb7 (Nat.le_refl _) _, go, gc, v7, by rw [hD.out], ?_, ?_⟩
      · rw [hD.out]
        exact (hSd.out.later hq7).row_other (k := w.heap.size) (fun d hd => by have := hfd.out d hd; omega) _
      · rw [hD.out]
        refine ⟨own_less (own_at hown.1 (fun k hk hb => ?_)) (Nat.le_of_lt hlt6), Nat.le_trans hb7.size hBt.size, hown.2.2⟩
        exact hBt.block k hk (by have := (hown.1.lt k hb).1; omega)
    clear hSd hown hBt
    go_wp2_with fail
    exact ret_has_tt rfl w.heap.size rfl 44 (stC x go gc) _ Tryz.underlying44 rfl (st_size _ _ _) hRf rfl hEE.out
  · have hD : Hid (getStM xs = (st0, xs, k)) := getSt_err hM
    have hk0 := readSt_nz hM
    have hkI : ((k : Int) != 0) = true := by simp; omega
    have hkN : ¬ (k : Int) = 0 := by omega
    replace hR := o4.has hR (fun z => by have := s1.out; have : w.heap.size = w1.heap.size := z; omega)
    have hV := o4.has hQ (fun z => by have := s2.out; have : w2.heap.size = w1.heap.size := z; omega)
    have hb4 : Below w.heap.size w w4 := hbW.trans (o4.below (fun b z => by have := s1.out; have : b = w1.heap.size := z; omega) hbW.size)
    have hcell : w4.cell? ⟨w1.heap.size, 0, none⟩ = some vp := hvp.cell 0
    have hfree := hvp.free 0
    obtain ⟨x5, hx5⟩ : ∃ W, w4.setCell ⟨w1.heap.size, 0, none⟩ (.slice ao xs.length c) = W := ⟨_, rfl⟩
    have hBt : But w1.heap.size w4 x5 := by rw [← hx5]; exact but_cell _ _ _
    have hP : Has x5 w1.heap.size 119 #[.slice ao xs.length c] := by rw [← hx5]; exact hvp.set 0 _
    replace hV := hBt.has hV (by have := s2.out; omega)
    replace hR := hBt.has hR (by have := s1.out; omega)
    have hb5 : Below w.heap.size w x5 := hb4.trans (hBt.below (Nat.le_of_lt s1.out) hb4.size)
    have hBr : By x5 ao c xs := (hB3.at (fun ad had _ => o4.block _ (by have := hlt.out ad had; have := hbW.size; omega) (fun z => by have := hlt.out ad had; have := s1.out; have : ad.block = w1.heap.size := z; omega))).at (fun ad had _ => hBt.block _ (by have := hlt.out ad had; have := hb4.size; omega) (by have := hlt.out ad had; have := s1.out; omega))
    have hSl : Sl x5 none 0 8 (entR st0.log) := Sl.nothing _ _
    have hfar : ∀ d, (none : Option Addr) = some d → w.heap.size < d.block := fun d hd => by cases hd
    have hrl := hl
    clear hM o4 hbW hB3 hQ hvp hb4 hBt hk0
    have hcp := wcopied_any ao c xs x5.drew (hBr.later (Below.refl _ _).drew) hrl
    replace hcp : Hid _ := hcp
    replace hV := hV.drew
    replace hP := hP.drew
    replace hR := hR.drew
    have hSd : Hid (Sl x5.drew none 0 8 (entR st0.log)) := hSl.later (Below.refl _ _).drew
    have hbd : Hid (Below w.heap.size w x5.drew) := hb5.trans ((Below.refl _ _).drew.mono hb5.size)
    have hfd : Hid (∀ d : Addr, none = some d → w.heap.size < d.block) := hfar
    have hq0 : w2.heap.size ≠ w.heap.size := by have := s1.out; have := s2.out; omega
    have hp0 : w1.heap.size ≠ w.heap.size := by have := s1.out; omega
    have hle9 := hBr.le
    have hcap9 := hBr.cap
    clear hSl hb5 hfar hBr
    go_wp2_with fail
    refine wp_region_plan (fun W => Has W w2.heap.size 44 (stC st0 none 0) ∧ Has W w1.heap.size 119 #[.slice ao xs.length c]) (Plan.of [(0, true), (1, true), (2, true), (4, true), (3, false), (5, false), (6, true), (7, true)] .done) (by kernel_rfl) (by kernel_rfl) (by kernel_rfl) (by kernel_rfl) ⟨hV, hP⟩ ?_
    generalize x5.drew = w6 at *
    refine plan_take _ _ rfl (yields_load_has (by rfl) 44 _ rfl w2.heap.size rfl 44 (stC st0 none 0) _ Tryz.underlying44 rfl (st_size _ _ _) (fun W hW => hW.1)) ?_
    try simp only [Act.put, List.setIfInBounds_toArray, List.set_cons_zero, List.set_cons_succ]
    iterate 1
      first
        | (refine plan_pass _ rfl (by rfl) ?_)
        | (refine plan_take _ _ rfl (.inl ⟨by rfl, fun W hS => by clear hS; go_simp; try with_reducible rfl⟩) ?_)
      try simp only [Act.put, List.setIfInBounds_toArray, List.set_cons_zero, List.set_cons_succ]
    iterate 1
      first
        | (refine plan_pass _ rfl (by rfl) ?_)
        | (refine plan_take _ _ rfl (.inl ⟨by rfl, fun W hS => by have z : W.cell? ⟨w1.heap.size, 0, none⟩ = some (.slice ao xs.length c) := hS.2.cell 0; go_simp; try with_reducible rfl⟩) ?_)
      try simp only [Act.put, List.setIfInBounds_toArray, List.set_cons_zero, List.set_cons_succ]
    iterate 1
      first
        | (refine plan_pass _ rfl (by rfl) ?_)
        | (refine plan_take _ _ rfl (.inl ⟨by rfl, fun W hS => by clear hS; go_simp; try with_reducible rfl⟩) ?_)
      try simp only [Act.put, List.setIfInBounds_toArray, List.set_cons_zero, List.set_cons_succ]
    refine plan_run _ rfl (fun K hK => ?_)
    go_simp
    refine Calls.mono hcp.out ?_
    rintro en w7 ⟨v7, he, hown, hq7⟩
    subst he
    refine hK.out _ _ ⟨hV.later hq7, hP.later hq7⟩ ?_
    clear hK K hcp
    try simp only [Act.put, List.setIfInBounds_toArray, List.set_cons_zero, List.set_cons_succ]
    replace hR := hR.later hq7
    have hBt : But w.heap.size w7 (w7.setRow w.heap.size (stC st0 none 0)) := but_row _ _
    refine plan_store_has _ rfl (by rfl) 44 _ _ rfl w.heap.size rfl (stC st0 none 0) rfl 44 (stC st0 none 0) (st_size _ _ _) rfl (st_one _ _ _) hR ⟨hBt.has (hV.later hq7) hq0, hBt.has (hP.later hq7) hp0⟩ ?_
    try simp only [Act.put, List.setIfInBounds_toArray, List.set_cons_zero, List.set_cons_succ]
    iterate 2
      first
        | (refine plan_pass _ rfl (by rfl) ?_)
        | (refine plan_take _ _ rfl (.inl ⟨by rfl, fun W hS => by clear hS; go_simp; try with_reducible rfl⟩) ?_)
      try simp only [Act.put, List.setIfInBounds_toArray, List.set_cons_zero, List.set_cons_succ]
    refine plan_done ?_
    have hRf := hR.row (stC st0 none 0)
    have hEE : Hid (GstR w xs (.returned (.tuple #[.agg (stC st0 none 0), v7, .int .i64 ((k : Nat) : Int)])) (w7.setRow w.heap.size (stC st0 none 0))) := by
      have hb7 := hbd.out.trans (hq7.mono hbd.out.size)
      have hlt6 : w.heap.size < w6.heap.size := by have := hV.lt; have := s1.out; have := s2.out; omega
      refine ⟨below_setRow hb7 (Nat.le_refl _) _, none, 0, v7, by rw [hD.out], ?_, ?_⟩
      · rw [hD.out]
        exact (hSd.out.later hq7).row_other (k := w.heap.size) (fun d hd => by have := hfd.out d hd; omega) _
      · rw [hD.out]
        refine ⟨own_less (own_at hown.1 (fun k hk hb => ?_)) (Nat.le_of_lt hlt6), Nat.le_trans hb7.size hBt.size, hown.2.2⟩
        exact hBt.block k hk (by have := (hown.1.lt k hb).1; omega)
    clear hSd hown hBt
    go_wp2_with fail
    exact ret_has_tt rfl w.heap.size rfl 44 (stC st0 none 0) _ Tryz.underlying44 rfl (st_size _ _ _) hRf rfl hEE.out


theorem putter_built (ao : Option Addr) (n c : Nat) : Tryz.prog.built 77 [(0, .slice ao n c)] = some #[.slice ao n c] := by kernel_rfl
theorem putter_sz (v : Value) : (Tryz.prog.info? 77).map (·.size) = some (#[v] : Array Value).size := by show _ = some 1; kernel_rfl
theorem Sl.lt {w : World} {ad : Addr} {c : Nat} {l : List EntV} (h : Sl w (some ad) c 8 (entR l)) (hl : 0 < l.length) : ad.block < w.heap.size := by
  have hx := ent_at h 0 hl
  have h1 := h.at' ad rfl 0 (by rw [entR_len]; exact hl) 0 (by decide)
  have hr := entR_each l _ (List.getElem_mem (by rw [entR_len]; exact hl : 0 < (entR l).length))
  rw [List.getElem?_eq_getElem (by omega)] at h1
  have h2 := World.block_lt_of_cell? w _ h1
  have hbl : (ad.add (0 * 8 + 0)).block = ad.block := by unfold Addr.add; split <;> rfl
  rw [hbl] at h2
  exact h2
set_option maxHeartbeats 8000000 in
theorem wputst_any (ao : Option Addr) (c : Nat) (s : List UInt8) (x : StV) (bo : Option Addr) (d : Nat) (w : World) (h : By w ao c s) (hl : s.length ≤ 30000) (hs : Sl w bo d 8 (entR x.log)) (hx : StOk x) :
    Calls Tryz.prog 19 #[.slice ao s.length c, .agg (stC x bo d)] w fun e w' => ∃ v, e = .returned v ∧ OwnV w' w.heap.size v (putStM s x) ∧ Below w.heap.size w w' := by
  obtain ⟨w1, hw1, hX, hb⟩ := one_var w 44 (stC x bo d)
  have hcp := wcopied_any ao c s w1 (h.later hb) (by omega)
  replace hcp : Hid _ := hcp
  have hslt : Hid (∀ ad, bo = some ad → 0 < x.log.length → ad.block < w.heap.size) := fun ad had hl => by subst had; exact hs.lt hl
  have hs1 := hs.later hb
  have hD : Hid (putStM s x = if isSt x = true then s ++ statB x else s) := rfl
  have hle := h.le
  have hcap := h.cap
  clear h
  go_enter Tryz.func19, Tryz.ntmps19
  go_wp2_with fail
  refine Calls.mono hcp.out ?_
  rintro en w2 ⟨v, he, hown, hq⟩
  subst he
  clear hcp hw1
  have hw1s := hX.lt
  replace hX := hX.later hq
  replace hs1 := hs1.later hq
  replace hb := hb.trans (hq.mono hb.size)
  have hlo : ∀ k, v.ownBlock = some k → w1.heap.size ≤ k ∧ k < w2.heap.size := fun k hk => hown.1.lt k hk
  obtain ⟨A, C, rfl, hBv⟩ := hown.slice
  have hle2 := hBv.le
  have hcap2 := hBv.cap
  obtain ⟨w3, hw3, hP, hq3⟩ := new_var w2 77 #[.slice none 0 0] #[.slice A s.length C]
  replace hX := hX.later hq3
  replace hs1 := hs1.later hq3
  replace hown := hown.later hq3
  have hb3 := hb.trans (hq3.mono hb.size)
  have hsz2 := hb.size
  have his := is_any7 x bo d w3 hx hs1
  replace his : Hid _ := his
  clear hq hq3 hb hBv
  go_wp2_with (first
    | (refine wpList_build_one (by rfl) 77 0 _ rfl (.slice A s.length C) rfl #[.slice A s.length C] (putter_built _ _ _) ?_)
    | (refine wpList_alloc_has (by rfl) 77 rfl #[.slice none 0 0] putter_zero ?_)
    | (refine wpList_store_to (by rfl) 77 _ _ rfl w2.heap.size rfl #[.slice A s.length C] rfl 77 #[.slice none 0 0] (putter_sz _) rfl (slice_one _ _ _) ?hg w3 ?hW ?_; (case hg => exact Has.new _ _ _); (case hW => exact hw3); clear hw3)
    | (refine wpList_load_has (by rfl) 44 _ rfl w.heap.size rfl 44 (stC x bo d) _ Tryz.underlying44 rfl (st_size _ _ _) ?hg ?_; (case hg => exact hX))
    | fail)
  refine Calls.mono his.out ?_
  rintro en w4 ⟨rfl, hq⟩
  clear his
  replace hX := hX.later hq
  replace hs1 := hs1.later hq
  replace hP := hP.later hq
  replace hown := hown.later hq
  have hb4 := hb3.trans (hq.mono hb3.size)
  clear hq hb3
  have hup : ∀ k, Value.ownBlock (.slice A s.length C) = some k → w.heap.size ≤ k := fun k hk => by have := (hlo k hk).1; omega
  cases hi : isSt x with
  | false =>
    have hE : Hid (OwnV w4 w.heap.size (.slice A s.length C) (putStM s x)) := by
      rw [hD.out, hi, if_neg (by decide)]
      exact ⟨own_up hown.1 hup, hb4.size, hown.2.2⟩
    have hcell := hP.cell 0
    clear hown hi
    go_wp2
    go_ret
    exact ⟨_, rfl, hE.out, hb4⟩
  | true =>
    have hG := isSt_G hi hx
    have hW := (isSt_W hi hx).putL
    have hlen := statB_length hG
    have hput : Hid (statM PutL x s = .ok (statN x, s ++ statB x)) := putL_stat (stat_put hx hG.len s) (by rw [List.length_append]; omega)
    have hI : PutI w2.heap.size w4 s (fun k => k = w2.heap.size ∨ Value.ownBlock (.slice A s.length C) = some k) := ⟨.slice A s.length C, hP, own_less hown.1 (Nat.zero_le _), fun k => Iff.rfl, by omega, fun e => by have := (hlo _ e).2; omega⟩
    have hsF : SlF w4 (fun k => k = w2.heap.size ∨ Value.ownBlock (.slice A s.length C) = some k) bo d x.log := ⟨hs1, fun ad had hl => by
      have h1 := hslt.out ad had hl
      refine ⟨Nat.lt_of_lt_of_le h1 hb4.size, ?_⟩
      rintro (z | z)
      · omega
      · have := (hlo _ z).1; omega⟩
    have hcall := wstate_any (put_coder w2.heap.size) w4 s _ x bo d hI hW hsF (fun _ h => by rw [hput.out] at h; cases h)
    rw [hput.out] at hcall
    unfold putV at hcall
    replace hcall : Hid _ := hcall
    have hP4 := hP.lt
    clear hG hW hput hI hsF hs1 hown
    have hi' : Hid _ := hi
    clear hi
    go_wp2_with (first
      | (refine wpList_load_has (by rfl) 44 _ rfl w.heap.size rfl 44 (stC x bo d) _ Tryz.underlying44 rfl (st_size _ _ _) ?hg ?_; (case hg => exact hX))
      | fail)
    refine Calls.mono hcall.out ?_
    rintro en w5 ⟨F', g, rfl, hN, hI5, hst⟩
    clear hcall hN
    have hb5 : Below w.heap.size w w5 := hb4.trans (hst.off.below (fun b z => by rcases z with z | z; (· omega); (· exact hup b z)) hb4.size)
    obtain ⟨v5, hp5, ho5, hF5, hL5, hne5⟩ := hI5
    have hE : Hid (OwnV w5 w.heap.size v5 (putStM s x)) := by
      rw [hD.out, hi'.out, if_pos rfl]
      refine ⟨own_up ho5 (fun k hk => ?_), hb5.size, by rw [List.length_append]; omega⟩
      rcases hst.new k ((hF5 k).2 (.inr hk)) with z | z
      · rcases z with z | z
        · omega
        · exact hup k z
      · exact Nat.le_trans hb4.size z
    obtain ⟨A5, C5, rfl⟩ := own_slice ho5
    have hcell := hp5.cell 0
    rw [List.length_append] at hE
    clear hst ho5 hF5 hne5 hD hi'
    go_wp2
    go_ret
    exact ⟨_, rfl, hE.out, hb5⟩
end Go.Proofs.YtecilienolabfaaGreatDoor
