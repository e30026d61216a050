/- JnlSheet, JnlBytes, GetText, joined. -/
import Derived.Test.YtpnpjblohijajabGreatGrp17
import Derived.Test.YtpnpjblohijajabGreatGrp19
import Derived.Test.YtpnpjblohijajabGreatGrp16
import Derived.Deep.RegionWith
namespace Go.Proofs.YtpnpjblohijajabGreat
section
set_option linter.unusedSimpArgs false
set_option linter.unusedVariables false
set_option maxRecDepth 100000
open Go.RowKit Go.MapKept

theorem own_nil (w : World) (b : Nat) : w.ownsRow b 5 1 (.slice none 0 0) 0 (Bs []) := ⟨rfl, .inl ⟨rfl, rfl⟩⟩
theorem own_kept {w w' : World} {base n : Nat} {v : Value} {xs : List Value} (h : w.ownsRow base 5 1 v n xs) (hq : Below w.heap.size w w') : w'.ownsRow base 5 1 v n xs := by
  obtain ⟨h1, h2⟩ := h
  refine ⟨h1, h2.imp id ?_⟩
  rintro ⟨g, cap, cur, hv, hb, hg, hr⟩
  refine ⟨g, cap, cur, hv, hb, ?_, hr⟩
  rw [hq.block g ((Array.getElem?_eq_some_iff.1 hg).1)]
  exact hg
theorem sheet_step (l : List (List UInt8)) (k : Nat) (h : k < l.length) : sheetB (l.take (k + 1)) = sheetB (l.take k) ++ recB l[k] := by
  rw [List.take_succ_eq_append_getElem h, sheetB_app]
  congr 1
  rw [sheetB_cons, sheetB_nil, List.append_nil]
theorem sheet_le (l : List (List UInt8)) (k : Nat) : (sheetB (l.take k)).length ≤ (sheetB l).length := by
  have : sheetB l = sheetB (l.take k) ++ sheetB (l.drop k) := by rw [← sheetB_app, List.take_append_drop]
  rw [this, List.length_append]
  omega
set_option maxHeartbeats 4000000 in
theorem sheetOf_any (ao : Option Addr) (c : Nat) (l : List (List UInt8)) (w : World) (h : Strs w ao c l) (hlt : ∀ ad, ao = some ad → ad.block < w.heap.size) (hs : (sheetB l).length ≤ 1000000) (he : ∀ r ∈ l, r.length ≤ 65535) :
    Calls Tryz.prog 61 #[.slice ao l.length c] w fun e w' => ∃ bo bc, e = .returned (.slice bo (sheetB l).length bc) ∧ w'.ownsRow w.heap.size 5 1 (.slice bo (sheetB l).length bc) (sheetB l).length (Bs (sheetB l)) ∧ By w' bo bc (sheetB l) ∧ Below w.heap.size w w' := by
  have hle := h.le
  have hcap := h.cap
  obtain ⟨L, hL⟩ : ∃ L, l.length = L := ⟨_, rfl⟩
  rw [hL] at hle ⊢
  replace hL : Hid _ := hL
  replace hs : Hid _ := hs
  replace he : Hid _ := he
  have h0 : Hid _ := h
  go_enter Tryz.func61, Tryz.ntmps61
  go_wp2
  go_loopw [3, 8] (fun bv iv wr => ∃ k bo bc, k ≤ L ∧ iv = .int .i64 (k : Nat) ∧ bv = .slice bo (sheetB (l.take k)).length bc ∧ wr.ownsRow w.heap.size 5 1 (.slice bo (sheetB (l.take k)).length bc) (sheetB (l.take k)).length (Bs (sheetB (l.take k))) ∧ Below w.heap.size w wr) (fun _ iv _ => L - (intOf iv).toNat)
  case atStart => exact ⟨0, none, 0, Nat.zero_le _, rfl, rfl, own_nil _ _, Below.refl _ _⟩
  case round =>
    obtain ⟨k, bo, bc, hk, rfl, rfl, hown, hb⟩ := hrel
    by_cases hlt2 : k < L
    · have hkl : k < l.length := by rw [hL.out]; exact hlt2
      cases ao with
      | none => have := h.nil rfl; omega
      | some ad =>
        have hS := h.same (b := wr) (fun ad' had => hb.block _ (hlt ad' had))
        have hc := hS.cell ad rfl k hkl
        have hrec := he.out l[k] (List.getElem_mem hkl)
        have ht := text_any none 0 0 [] (mkS l[k]) wr (By.nothing _) rfl (by decide) (by rw [mkS_size]; exact hrec)
        rw [txt_rec, List.nil_append, mkS_size] at ht
        have hst : Hid (sheetB (l.take (k + 1)) = sheetB (l.take k) ++ recB l[k]) := sheet_step l k hkl
        have hlen := sheet_le l (k + 1)
        have hltI : (k : Int) < (L : Int) := by omega
        obtain ⟨s, hs2⟩ : ∃ s, l[k] = s := ⟨_, rfl⟩
        rw [hs2] at hc ht hst
        rw [hst.out, List.length_append, recB_length] at hlen
        obtain ⟨P, hP⟩ : ∃ P, sheetB (l.take k) = P := ⟨_, rfl⟩
        rw [hP] at hst hown hlen ⊢
        obtain ⟨pl, hpl⟩ : ∃ n, P.length = n := ⟨_, rfl⟩
        rw [hpl] at hown hlen ⊢
        have hlen2 : pl + (s.length + 2) ≤ 1000000 := by have := hs.out; omega
        obtain ⟨sl, hsl⟩ : ∃ n, s.length = n := ⟨_, rfl⟩
        rw [hsl] at ht hlen2
        unfold strV at hc
        replace ht : Hid _ := ht
        replace hown : Hid _ := hown
        have hpl' : Hid _ := hpl
        have hsl' : Hid _ := hsl
        have hsw : w.heap.size ≤ wr.heap.size := hb.size
        clear hS hrec hs2 hP hlen hkl hpl hsl
        go_wp2_with fail
        refine Calls.mono ht.out ?_
        rintro e w2 ⟨g, c2, rfl, hB2, hq⟩
        clear ht
        have hown2 := own_kept hown.out hq
        have hb2 := hb.trans (hq.mono hsw)
        have hsw2 : w.heap.size ≤ w2.heap.size := hb2.size
        clear hown hb hq
        go_wp2_with (first
          | (refine wpList_appB _ rfl _ _ rfl w.heap.size _ pl P rfl ⟨g, 0, none⟩ (sl + 2) c2 (recB s) rfl ?ho ?hB ?hk (by omega) ?hl ?_; (case ho => exact hown2); (case hB => exact hB2); (case hk => rw [recB_length, hsl'.out]); (case hl => exact hsw2); rintro bo' bc' w3 hown3 hB3 hbb3; have hb3 := hb2.trans hbb3; clear hown2 hB2 hb2 hbb3)
          | fail)
        go_roundw
        case rel =>
          have hlen3 : pl + (sl + 2) = (sheetB (l.take (k + 1))).length := by rw [hst.out, List.length_append, recB_length, hpl'.out, hsl'.out]
          refine ⟨k + 1, bo', bc', by omega, by go_num, ?_, ?_, hb3⟩
          · rw [hlen3]
          · rw [← hlen3, hst.out]; exact hown3
        case measure => simp [intOf]; omega
    · have hkL : k = L := by omega
      subst hkL
      rw [← hL.out, List.take_length] at hown
      rw [← hL.out, List.take_length]
      have hB : By wr bo bc (sheetB l) := by
        obtain ⟨_, ao', c', hv, hB⟩ := own_by hown
        cases hv
        exact hB
      obtain ⟨X, hX⟩ : ∃ x, sheetB l = x := ⟨_, rfl⟩
      rw [hX] at hown hB ⊢
      obtain ⟨xl, hxl⟩ : ∃ x, X.length = x := ⟨_, rfl⟩
      rw [hxl] at hown ⊢
      replace hown : Hid _ := hown
      replace hxl : Hid _ := hxl
      replace hX : Hid _ := hX
      go_wp2_with fail
      go_ret
      have e1 := hX.out
      have e2 := hxl.out
      subst e1
      subst e2
      exact ⟨bo, bc, rfl, hown.out, hB, hb⟩
end

section
set_option linter.unusedSimpArgs false
set_option linter.unusedVariables false
set_option maxRecDepth 100000
open Go.RowKit Go.MapKept

def bodyN (d : DskV) (i : Nat) : Nat → List UInt8
  | 0 => []
  | k + 1 => bodyN d i k ++ writtenM d (i + k)
def bodyM (d : DskV) (i len : Nat) : List UInt8 := (bodyN d i ((len + 63) / 64)).take len
theorem read_len {w : World} {p kb mb n : Nat} {d : DskV} (h : DiskAt w p kb mb n d) (i : Nat) : ∀ k, i + k ≤ n → (bodyN d i k).length = 64 * k
  | 0, _ => rfl
  | k + 1, hk => by
    show (bodyN d i k ++ writtenM d (i + k)).length = _
    rw [List.length_append, read_len h i k (by omega), written_len h (by omega)]
    omega
theorem By.takeB {w : World} {ao : Option Addr} {c : Nat} {xs : List UInt8} (h : By w ao c xs) (k : Nat) : By w ao c (xs.take k) := by
  refine ⟨?_, h.cap, h.nil, fun ad had i v hv => h.at' ad had i v ?_⟩
  · rw [List.length_take]
    have := h.le
    omega
  · rw [Bs_take, List.getElem?_take] at hv
    split at hv
    · exact hv
    · cases hv
set_option maxHeartbeats 8000000 in
theorem bytesOf_any (p kb mb n : Nat) (d : DskV) (h : HdV) (w : World) (hD : DiskAt w p kb mb n d) (ho : d.off = false) (hn : 8 ≤ n) (hh : h.half ≤ 1) (hfit : 64 * firstM n h.half + h.len ≤ 64 * n) :
    Calls Tryz.prog 81 #[.pointer (some ⟨p, 0, none⟩), .agg (hdC h)] w fun e w' => ∃ bo bc, e = .returned (.slice bo h.len bc) ∧ By w' bo bc (bodyM d (firstM n h.half) h.len) ∧ Below w.heap.size w w' := by
  have hn1 := hD.n1
  obtain ⟨w1, hw1, hX, hb1⟩ := one_var w 73 (hdC h)
  have s1 : Hid (w1.heap.size = w.heap.size + 1) := by show _ = _; rw [← hw1]; simp
  have hD1 := hD.later hb1
  have c1 := hX.hd_half
  have c2 := hX.hd_len
  have hfo := firstOf_any p kb mb n h.half d w1 hD1 hn hh
  have hrl := read_len hD1 (firstM n h.half)
  obtain ⟨F, hF⟩ : ∃ F, firstM n h.half = F := ⟨_, rfl⟩
  rw [hF] at hfo hfit hrl ⊢
  obtain ⟨L, hL⟩ : ∃ L, h.len = L := ⟨_, rfl⟩
  rw [hL] at hfit c2 ⊢
  obtain ⟨H, hH⟩ : ∃ H, h.half = H := ⟨_, rfl⟩
  rw [hH] at hfo c1
  replace hfo : Hid _ := hfo
  replace hrl : Hid _ := hrl
  replace hL : Hid _ := hL
  clear hD hh hF hH
  go_enter Tryz.func81, Tryz.ntmps81
  go_wp2_with (first
    | (refine Go.Great.wpList_boxTo rfl 73 _ rfl _ rfl w.heap.size rfl (hdC h) rfl ?_; rw [hw1]; clear hw1)
    | fail)
  refine Calls.mono hfo.out ?_
  rintro e w1' ⟨rfl, rfl⟩
  clear hfo
  go_wp2
  go_loopw [5, 6] (fun bv iv wr => ∃ k bo bc, 64 * k < L + 64 ∧ iv = .int .i64 (F + k : Nat) ∧ bv = .slice bo (64 * k) bc ∧ wr.ownsRow w1'.heap.size 5 1 (.slice bo (64 * k) bc) (64 * k) (Bs (bodyN d F k)) ∧ Below w1'.heap.size w1' wr) (fun _ iv _ => L + 64 * F + 64 - 64 * (intOf iv).toNat)
  case atStart => exact ⟨0, none, 0, by omega, rfl, rfl, own_nil _ _, Below.refl _ _⟩
  case round =>
    obtain ⟨k, bo, bc, hk, rfl, rfl, hown, hb⟩ := hrel
    have hsz : w1'.heap.size ≤ wr.heap.size := hb.size
    have hDr := hD1.later hb
    have hXr := hX.later hb
    have c3 := hXr.hd_len
    rw [hL.out] at c3
    by_cases hlt : 64 * k < L
    · have hltI : ((64 * k : Nat) : Int) < (L : Int) := by omega
      have hrd := jread_on p kb mb n (F + k) d wr hDr ho (by omega)
      have hxl := written_len hDr (show F + k < n by omega)
      have hst : Hid (bodyN d F (k + 1) = bodyN d F k ++ writtenM d (F + k)) := rfl
      obtain ⟨X, hX⟩ : ∃ x, writtenM d (F + k) = x := ⟨_, rfl⟩
      rw [hX] at hrd hxl hst
      obtain ⟨P, hP⟩ : ∃ x, bodyN d F k = x := ⟨_, rfl⟩
      rw [hP] at hown hst
      replace hrd : Hid _ := hrd
      replace hown : Hid _ := hown
      clear hX hP
      go_wp2_with fail
      refine Calls.mono hrd.out ?_
      rintro e w2 ⟨g, hg, rfl, hG, hq⟩
      clear hrd
      have hown2 := own_kept hown.out hq
      have hb2 := hb.trans (hq.mono hsz)
      have hsz2 : w1'.heap.size ≤ w2.heap.size := hb2.size
      have hB2 := By.ofBlock hG (by rw [hxl]; decide)
      rw [hxl] at hB2
      have hxl' : Hid _ := hxl
      clear hown hb hq hG hxl hX hXr hDr hD1 hb1
      go_wp2_with (first
        | (refine wpList_appB _ rfl _ _ rfl w1'.heap.size _ (64 * k) P rfl ⟨g, 0, none⟩ 64 64 X rfl ?ho ?hB ?hk (by omega) ?hl ?_; (case ho => exact hown2); (case hB => exact hB2); (case hk => rw [hxl'.out]); (case hl => exact hsz2); rintro bo' bc' w3 hown3 hB3 hbb3; have hb3 := hb2.trans hbb3; clear hown2 hB2 hb2 hbb3)
        | fail)
      have e64 : 64 * k + 64 = 64 * (k + 1) := by omega
      rw [e64] at hown3
      go_roundw
      case rel =>
        refine ⟨k + 1, bo', bc', by omega, by go_num, by rw [e64], ?_, hb3⟩
        rw [hst.out]
        exact hown3
      case measure => simp [intOf]; omega
    · have hltI : ¬ ((64 * k : Nat) : Int) < (L : Int) := by omega
      have hK : (L + 63) / 64 = k := by omega
      obtain ⟨hz1, ao', c', hv, hB⟩ := own_by hown
      cases hv
      clear hz1
      have hle := hB.le
      have hcap := hB.cap
      have hnil := hB.nil
      have hFk := hrl.out k (by omega)
      rw [hFk] at hle
      have hfin : Hid (By wr bo bc (bodyM d F L)) := by
        show By _ _ _ _
        unfold bodyM
        rw [hK]
        exact hB.takeB L
      have hbf := hb1.trans (hb.mono hb1.size)
      have hLc : L ≤ bc := by omega
      clear hown hB hb hD1 hDr hX hXr hK hrl hFk
      cases bo with
      | none =>
        have := hnil rfl
        subst this
        have hL0 : L = 0 := by omega
        subst hL0
        go_wp2_with fail
        go_ret
        exact ⟨none, 0, rfl, hfin.out, hbf⟩
      | some ad =>
        clear hnil
        go_wp2_with fail
        go_ret
        exact ⟨some ad, bc, rfl, hfin.out, hbf⟩
end

section
set_option maxRecDepth 100000
open Go.RowKit
set_option linter.unusedVariables false

/-- What a text's bytes are. -/
def txtOf (xs : List UInt8) : ByteArray := ⟨((xs.drop 2).take (lenN xs)).toArray⟩

theorem gettext1_ok (r b q : Addr) (ao : Option Addr) (n c : Nat) (xs : List UInt8) (most : Int) (z : ByteArray) (w : World) (h : By w ao c xs) (hn : n = xs.length) (hk : 2 ≤ n) (hm : (lenN xs : Int) ≤ most) (hl : lenN xs + 2 ≤ n)
    (hr : w.cell? r = some (.slice ao n c)) (hb : w.cell? b = some (.int .i64 most)) (hq : w.cell? q = some (.string z)) (zr : w.frozen? r = false) (zq : w.frozen? q = false)
    (hne : ∀ ad, ao = some ad → 0 < xs.length → ad.block ≠ r.block) (hrq : r.block ≠ q.block) :
    Calls Tryz.prog 112 #[.pointer (some r), .pointer (some b), .pointer (some q)] w fun e w' =>
      e = .returned (.tuple #[]) ∧ w' = ((w.setCell r (.slice (restAddr ao c 2) (n - 2) (c - 2))).setCell r (.slice (restAddr (restAddr ao c 2) (c - 2) (lenN xs)) (n - 2 - lenN xs) (c - 2 - lenN xs))).setCell q (.string (txtOf xs)) := by
  subst hn
  have hrq' : r ≠ q := fun e => hrq (by rw [e])
  have hq' : ((w.setCell r (.slice (restAddr ao c 2) (xs.length - 2) (c - 2))).setCell r (.slice (restAddr (restAddr ao c 2) (c - 2) (lenN xs)) (xs.length - 2 - lenN xs) (c - 2 - lenN xs))).cell? q = some (.string z) := by
    rw [World.cell?_setCell_other _ _ _ _ hrq', World.cell?_setCell_other _ _ _ _ hrq']
    exact hq
  go_enter Tryz.func112, Tryz.ntmps112
  go_wp2_with (go_at_call 113; refine (rtext_ok r ao xs.length c xs most _ h rfl hk hm hl hr zr hne).mono ?_; rintro e w' ⟨rfl, rfl⟩)
  go_end0
  exact ⟨rfl, rfl⟩

theorem gettext1_err (r b q : Addr) (ao : Option Addr) (n c : Nat) (xs : List UInt8) (most : Int) (w : World) (h : By w ao c xs) (hn : n = xs.length) (he : textErr xs most ≠ 0)
    (hr : w.cell? r = some (.slice ao n c)) (hb : w.cell? b = some (.int .i64 most)) (zr : w.frozen? r = false) (hne : ∀ ad, ao = some ad → 0 < xs.length → ad.block ≠ r.block) :
    Calls Tryz.prog 112 #[.pointer (some r), .pointer (some b), .pointer (some q)] w fun e w' =>
      e = .panicked [{ v := .iface 25 (.int .i64 (textErr xs most)), recovered := false }] ∧ (w' = w ∨ ∃ V, w' = w.setCell r V) := by
  subst hn
  generalize hx : textErr xs most = x at *
  go_enter Tryz.func112, Tryz.ntmps112
  go_wp2_with fail
  have H := rtext_err r ao xs.length c xs most w h rfl (by rw [hx]; exact he) hr zr hne
  rw [hx] at H
  refine H.mono ?_
  rintro e w' ⟨rfl, hw⟩
  clear H
  go_wp2
  exact ⟨rfl, rfl, hw⟩

/-- bits.caught over GetText's closure, where that returns. -/
theorem caught_text_ok (a b q : Value) (w w1 : World)
    (hF : Calls Tryz.prog 112 #[a, b, q] (w.alloc (.cells #[.int .i64 0] 25)) fun e w' => e = .returned (.tuple #[]) ∧ w' = w1)
    (hc : w1.cell? ⟨w.heap.size, 0, none⟩ = some (.int .i64 0)) (hz : w1.frozen? ⟨w.heap.size, 0, none⟩ = false) :
    Calls Tryz.prog 111 #[.func (.func 112) #[] #[a, b, q]] w fun e w' => e = .returned (.int .i64 0) ∧ w' = w1.setCell ⟨w.heap.size, 0, none⟩ (.int .i64 0) := by
  have hmf : ∀ (fn : Fn) (first cap : Array Value) (w : World), (Instr.makeFunc fn first cap).run Tryz.prog w = .ok (.func fn first cap) w := fun _ _ _ _ => rfl
  have H : Hid (Calls Tryz.prog 112 #[a, b, q] (w.alloc (.cells #[.int .i64 0] 25)) fun e w' => e = .returned (.tuple #[]) ∧ w' = w1) := hF
  clear hF
  go_enter_defers Tryz.func111, Tryz.ntmps111
  go_wp2_with fail
  refine H.out.mono ?_
  rintro e w' ⟨rfl, rfl⟩
  go_wp2
  refine leaves_cons (f := 136) (args := #[.pointer (some ⟨w.heap.size, 0, none⟩)]) (by simp) (by simp [go_sem]) ?_
  refine (catch_idle ⟨w.heap.size, 0, none⟩ _).mono ?_
  rintro e u' w'' ⟨rfl, rfl, rfl⟩
  have hc2 : (w'.setCell ⟨w.heap.size, 0, none⟩ (.int .i64 0)).cell? ⟨w.heap.size, 0, none⟩ = some (.int .i64 0) := by
    rw [World.cell?_setCell_same _ _ _ hc]
  simp [Leaves, settle, results, Tryz.results111, go_sem, hc2]

/-- bits.caught over GetText's closure, where that panics with an error. -/
theorem caught_text_err (a b q : Value) (x : Int) (w : World) (R : World → Prop)
    (hF : Calls Tryz.prog 112 #[a, b, q] (w.alloc (.cells #[.int .i64 0] 25)) fun e w' => e = .panicked [{ v := .iface 25 (.int .i64 x), recovered := false }] ∧ R w')
    (hR : ∀ w1, R w1 → w1.cell? ⟨w.heap.size, 0, none⟩ = some (.int .i64 0) ∧ w1.frozen? ⟨w.heap.size, 0, none⟩ = false) :
    Calls Tryz.prog 111 #[.func (.func 112) #[] #[a, b, q]] w fun e w' => e = .returned (.int .i64 x) ∧ ∃ w1, R w1 ∧ w' = w1.setCell ⟨w.heap.size, 0, none⟩ (.int .i64 x) := by
  have hmf : ∀ (fn : Fn) (first cap : Array Value) (w : World), (Instr.makeFunc fn first cap).run Tryz.prog w = .ok (.func fn first cap) w := fun _ _ _ _ => rfl
  have H : Hid (Calls Tryz.prog 112 #[a, b, q] (w.alloc (.cells #[.int .i64 0] 25)) fun e w' => e = .panicked [{ v := .iface 25 (.int .i64 x), recovered := false }] ∧ R w') := hF
  have HR : Hid (∀ w1, R w1 → w1.cell? ⟨w.heap.size, 0, none⟩ = some (.int .i64 0) ∧ w1.frozen? ⟨w.heap.size, 0, none⟩ = false) := hR
  clear hF hR
  go_enter_defers Tryz.func111, Tryz.ntmps111
  go_wp2_with fail
  refine H.out.mono ?_
  rintro e w' ⟨rfl, hw⟩
  obtain ⟨hc, hz⟩ := HR.out w' hw
  have HW : Hid (R w') := hw
  clear hw
  go_wp2
  refine leaves_cons (f := 136) (args := #[.pointer (some ⟨w.heap.size, 0, none⟩)]) (by simp) (by simp [go_sem]) ?_
  refine (catch_panicking ⟨w.heap.size, 0, none⟩ x 0 [] _ hc hz).mono ?_
  rintro e u' w'' ⟨rfl, rfl, rfl⟩
  have hc2 : (w'.setCell ⟨w.heap.size, 0, none⟩ (.int .i64 x)).cell? ⟨w.heap.size, 0, none⟩ = some (.int .i64 x) := by
    rw [World.cell?_setCell_same _ _ _ hc]
  simp [Leaves, settle, results, Tryz.results111, go_sem, hc2]
  exact ⟨w', HW.out, rfl⟩

/-- GetText's world at the call of caught. -/
def gotT (w : World) (ao : Option Addr) (n c : Nat) (most : Int) : World :=
  ((w.alloc (.cells #[.int .i64 most] 3)).alloc (.cells #[.slice ao n c] 153)).alloc (.cells #[.string ⟨#[]⟩] 9)

theorem gotT_size (w : World) (ao : Option Addr) (n c : Nat) (k : Int) : (gotT w ao n c k).heap.size = w.heap.size + 3 := by simp [gotT]

theorem gotT_below (w : World) (ao : Option Addr) (n c : Nat) (k : Int) : Below w.heap.size w (gotT w ao n c k) := by
  unfold gotT
  exact (((Below.refl _ _).alloc (Nat.le_refl _) _).alloc (by simp) _).alloc (by simp; omega) _

theorem caught_gett_ok (w : World) (ao : Option Addr) (c : Nat) (xs : List UInt8) (most : Int) (h : By w ao c xs) (hk : 2 ≤ xs.length) (hm : (lenN xs : Int) ≤ most) (hl : lenN xs + 2 ≤ xs.length) :
    Calls Tryz.prog 111 #[.func (.func 112) #[] #[.pointer (some ⟨w.heap.size + 1, 0, none⟩), .pointer (some ⟨w.heap.size, 0, none⟩), .pointer (some ⟨w.heap.size + 1 + 1, 0, none⟩)]] (gotT w ao xs.length c most) fun e w' =>
      e = .returned (.int .i64 0) ∧ w'.cell? ⟨w.heap.size + 1, 0, none⟩ = some (.slice (restAddr (restAddr ao c 2) (c - 2) (lenN xs)) (xs.length - 2 - lenN xs) (c - 2 - lenN xs)) ∧
        w'.cell? ⟨w.heap.size + 1 + 1, 0, none⟩ = some (.string (txtOf xs)) ∧ Below w.heap.size w w' ∧ w.heap.size + 3 < w'.heap.size := by
  have hb := gotT_below w ao xs.length c most
  have hs := gotT_size w ao xs.length c most
  have cr : (gotT w ao xs.length c most).cell? ⟨w.heap.size + 1, 0, none⟩ = some (.slice ao xs.length c) := by simp [gotT, go_sem]
  have cb : (gotT w ao xs.length c most).cell? ⟨w.heap.size, 0, none⟩ = some (.int .i64 most) := by simp [gotT, go_sem]
  have cq : (gotT w ao xs.length c most).cell? ⟨w.heap.size + 1 + 1, 0, none⟩ = some (.string ⟨#[]⟩) := by simp [gotT, go_sem]
  have zr : (gotT w ao xs.length c most).frozen? ⟨w.heap.size + 1, 0, none⟩ = false := by simp [gotT, go_sem]
  have zq : (gotT w ao xs.length c most).frozen? ⟨w.heap.size + 1 + 1, 0, none⟩ = false := by simp [gotT, go_sem]
  have hW := h.later hb
  have hne : ∀ ad, ao = some ad → 0 < xs.length → ad.block ≠ w.heap.size + 1 := by
    intro ad had hl
    have := World.block_lt_of_cell? w _ (h.at' ad had 0 _ (Bs_at hl))
    simp [Addr.add] at this
    omega
  generalize gotT w ao xs.length c most = W at *
  have bE : Below w.heap.size w (W.alloc (.cells #[.int .i64 0] 25)) := hb.alloc (by omega) _
  have bE' : Below W.heap.size W (W.alloc (.cells #[.int .i64 0] 25)) := (Below.refl _ _).alloc (Nat.le_refl _) _
  have cr' := (World.cell?_alloc_past (w := W) (.cells #[.int .i64 0] 25) (w.heap.size + 1) 0 (by omega)).trans cr
  have cb' := (World.cell?_alloc_past (w := W) (.cells #[.int .i64 0] 25) w.heap.size 0 (by omega)).trans cb
  have cq' := (World.cell?_alloc_past (w := W) (.cells #[.int .i64 0] 25) (w.heap.size + 1 + 1) 0 (by omega)).trans cq
  have zr' := (World.frozen?_alloc_past (w := W) (.cells #[.int .i64 0] 25) (w.heap.size + 1) 0 (by omega)).trans zr
  have zq' := (World.frozen?_alloc_past (w := W) (.cells #[.int .i64 0] 25) (w.heap.size + 1 + 1) 0 (by omega)).trans zq
  have ce : (W.alloc (.cells #[.int .i64 0] 25)).cell? ⟨W.heap.size, 0, none⟩ = some (.int .i64 0) := by simp [go_sem]
  have ze : (W.alloc (.cells #[.int .i64 0] 25)).frozen? ⟨W.heap.size, 0, none⟩ = false := by simp [go_sem]
  have hF := gettext1_ok ⟨w.heap.size + 1, 0, none⟩ ⟨w.heap.size, 0, none⟩ ⟨w.heap.size + 1 + 1, 0, none⟩ ao xs.length c xs most ⟨#[]⟩ (W.alloc (.cells #[.int .i64 0] 25)) (hW.later bE') rfl hk hm hl cr' cb' cq' zr' zq' hne (by simp)
  generalize hV0 : Value.slice (restAddr ao c 2) (xs.length - 2) (c - 2) = V0 at *
  generalize hV1 : Value.slice (restAddr (restAddr ao c 2) (c - 2) (lenN xs)) (xs.length - 2 - lenN xs) (c - 2 - lenN xs) = V1 at *
  generalize hV2 : Value.string (txtOf xs) = V2 at *
  have ne1 : (⟨w.heap.size + 1, 0, none⟩ : Addr) ≠ ⟨w.heap.size + 1 + 1, 0, none⟩ := by simp
  have ne2 : (⟨W.heap.size, 0, none⟩ : Addr) ≠ ⟨w.heap.size + 1 + 1, 0, none⟩ := by simp [hs]
  have ne3 : (⟨W.heap.size, 0, none⟩ : Addr) ≠ ⟨w.heap.size + 1, 0, none⟩ := by simp [hs]
  refine (caught_text_ok _ _ _ W _ hF ?_ ?_).mono ?_
  · rw [World.cell?_setCell_other _ _ _ _ ne2.symm, World.cell?_setCell_other _ _ _ _ ne3.symm, World.cell?_setCell_other _ _ _ _ ne3.symm]
    exact ce
  · rw [World.frozen?_setCell, World.frozen?_setCell, World.frozen?_setCell]
    exact ze
  · rintro e w' ⟨rfl, rfl⟩
    refine ⟨rfl, ?_, ?_, ?_, ?_⟩
    · rw [World.cell?_setCell_other _ _ _ _ ne3, World.cell?_setCell_other _ _ _ _ ne1.symm, World.cell?_setCell_same _ _ _ (World.cell?_setCell_same _ _ _ cr')]
    · rw [World.cell?_setCell_other _ _ _ _ ne2, World.cell?_setCell_same _ _ _ ((World.cell?_setCell_other _ _ _ _ ne1).trans ((World.cell?_setCell_other _ _ _ _ ne1).trans cq'))]
    · exact (((bE.setCell (by simp) _).setCell (by simp) _).setCell (by simp; omega) _).setCell (by simp; omega) _
    · simp [World.setCell]; omega

theorem caught_gett_err (w : World) (ao : Option Addr) (c : Nat) (xs : List UInt8) (most : Int) (h : By w ao c xs) (he : textErr xs most ≠ 0) :
    Calls Tryz.prog 111 #[.func (.func 112) #[] #[.pointer (some ⟨w.heap.size + 1, 0, none⟩), .pointer (some ⟨w.heap.size, 0, none⟩), .pointer (some ⟨w.heap.size + 1 + 1, 0, none⟩)]] (gotT w ao xs.length c most) fun e w' =>
      e = .returned (.int .i64 (textErr xs most)) ∧ Below w.heap.size w w' := by
  have hb := gotT_below w ao xs.length c most
  have hs := gotT_size w ao xs.length c most
  have cr : (gotT w ao xs.length c most).cell? ⟨w.heap.size + 1, 0, none⟩ = some (.slice ao xs.length c) := by simp [gotT, go_sem]
  have cb : (gotT w ao xs.length c most).cell? ⟨w.heap.size, 0, none⟩ = some (.int .i64 most) := by simp [gotT, go_sem]
  have zr : (gotT w ao xs.length c most).frozen? ⟨w.heap.size + 1, 0, none⟩ = false := by simp [gotT, go_sem]
  have hW := h.later hb
  have hne : ∀ ad, ao = some ad → 0 < xs.length → ad.block ≠ w.heap.size + 1 := by
    intro ad had hl
    have := World.block_lt_of_cell? w _ (h.at' ad had 0 _ (Bs_at hl))
    simp [Addr.add] at this
    omega
  generalize gotT w ao xs.length c most = W at *
  have bE : Below w.heap.size w (W.alloc (.cells #[.int .i64 0] 25)) := hb.alloc (by omega) _
  have bE' : Below W.heap.size W (W.alloc (.cells #[.int .i64 0] 25)) := (Below.refl _ _).alloc (Nat.le_refl _) _
  have cr' := (World.cell?_alloc_past (w := W) (.cells #[.int .i64 0] 25) (w.heap.size + 1) 0 (by omega)).trans cr
  have cb' := (World.cell?_alloc_past (w := W) (.cells #[.int .i64 0] 25) w.heap.size 0 (by omega)).trans cb
  have zr' := (World.frozen?_alloc_past (w := W) (.cells #[.int .i64 0] 25) (w.heap.size + 1) 0 (by omega)).trans zr
  have ce : (W.alloc (.cells #[.int .i64 0] 25)).cell? ⟨W.heap.size, 0, none⟩ = some (.int .i64 0) := by simp [go_sem]
  have ze : (W.alloc (.cells #[.int .i64 0] 25)).frozen? ⟨W.heap.size, 0, none⟩ = false := by simp [go_sem]
  have ne3 : (⟨W.heap.size, 0, none⟩ : Addr) ≠ ⟨w.heap.size + 1, 0, none⟩ := by simp [hs]
  have hF := gettext1_err ⟨w.heap.size + 1, 0, none⟩ ⟨w.heap.size, 0, none⟩ ⟨w.heap.size + 1 + 1, 0, none⟩ ao xs.length c xs most (W.alloc (.cells #[.int .i64 0] 25)) (hW.later bE') rfl he cr' cb' zr' hne
  refine (caught_text_err _ _ _ _ W _ hF ?_).mono ?_
  · rintro w1 (rfl | ⟨V, rfl⟩)
    · exact ⟨ce, ze⟩
    · exact ⟨(World.cell?_setCell_other _ _ _ _ ne3.symm).trans ce, (World.frozen?_setCell _ _ _ _).trans ze⟩
  · rintro e w' ⟨rfl, w1, hw1, rfl⟩
    refine ⟨rfl, ?_⟩
    rcases hw1 with rfl | ⟨V, rfl⟩
    · exact bE.setCell (by simp; omega) _
    · exact (bE.setCell (by simp) _).setCell (by simp; omega) _

set_option maxHeartbeats 800000 in
theorem gettext_ok (ao : Option Addr) (n c : Nat) (xs : List UInt8) (most : Int) (w : World) (h : By w ao c xs) (hn : n = xs.length) (hl : n ≤ 1099511627776) (he : textErr xs most = 0) :
    Calls Tryz.prog 82 #[.slice ao n c, .int .i64 most] w fun e w' =>
      ∃ g c', e = .returned (.tuple #[.string (txtOf xs), .slice (some ⟨g, 0, none⟩) (n - 2 - lenN xs) c', .int .i64 0]) ∧ By w' (some ⟨g, 0, none⟩) c' ((xs.drop 2).drop (lenN xs)) ∧ Below w.heap.size w w' := by
  have hmf : ∀ (fn : Fn) (first cap : Array Value) (w : World), (Instr.makeFunc fn first cap).run Tryz.prog w = .ok (.func fn first cap) w := fun _ _ _ _ => rfl
  subst hn
  obtain ⟨hk, hm, hL⟩ : 2 ≤ xs.length ∧ (lenN xs : Int) ≤ most ∧ lenN xs + 2 ≤ xs.length := by
    unfold textErr at he
    split at he
    · cases he
    · split at he
      · cases he
      · split at he
        · cases he
        · refine ⟨by omega, by omega, by omega⟩
  clear he
  go_enter Tryz.func82, Tryz.ntmps82
  go_wp2_with fail
  refine (caught_gett_ok w ao c xs most h hk hm hL).mono ?_
  rintro e w1 ⟨rfl, cr, cq, hb, hs⟩
  have hR := ((h.later hb).rest (k := 2) (by omega)).rest (k := lenN xs) (by rw [List.length_drop]; omega)
  have hLL : Hid (xs.length - 2 - lenN xs = ((xs.drop 2).drop (lenN xs)).length) := by show _ = _; rw [List.length_drop, List.length_drop]
  generalize restAddr (restAddr ao c 2) (c - 2) (lenN xs) = A at *
  go_wp2_with fail
  go_region_with (go_at_call 95; refine (grown_any _ _ _ _ 0 _ (hR.later ?_) hLL.out (by omega) (by decide) (by decide)).mono ?_; exact (Below.refl _ _).drew; rintro e w2 ⟨rfl, hown, hb2⟩; have cq2 := (hb2.cell (p := ⟨w.heap.size + 1 + 1, 0, none⟩) (by simp; omega)).trans cq)
  all_goals
    have hb3 : Below w.heap.size w w2 := hb.trans ((of_drew hb2).mono (by show w.heap.size ≤ w1.heap.size; omega))
    have R := By.own hown (by simp; omega)
    clear hown hb2 cq2
    go_wp2
    go_ret3
    exact ⟨_, _, rfl, R, hb3⟩

set_option maxHeartbeats 800000 in
theorem gettext_err (ao : Option Addr) (n c : Nat) (xs : List UInt8) (most : Int) (w : World) (h : By w ao c xs) (hn : n = xs.length) (hl : n ≤ 1099511627776) (he : textErr xs most ≠ 0) :
    Calls Tryz.prog 82 #[.slice ao n c, .int .i64 most] w fun e w' =>
      ∃ g c', e = .returned (.tuple #[.string ⟨#[]⟩, .slice (some ⟨g, 0, none⟩) n c', .int .i64 (textErr xs most)]) ∧ By w' (some ⟨g, 0, none⟩) c' xs ∧ Below w.heap.size w w' := by
  have hmf : ∀ (fn : Fn) (first cap : Array Value) (w : World), (Instr.makeFunc fn first cap).run Tryz.prog w = .ok (.func fn first cap) w := fun _ _ _ _ => rfl
  subst hn
  have hc := caught_gett_err w ao c xs most h he
  have hne : (textErr xs most != 0) = true := by rw [bne_iff_ne]; exact he
  clear he
  generalize textErr xs most = x at *
  have HC : Hid (Calls Tryz.prog 111 #[.func (.func 112) #[] #[.pointer (some ⟨w.heap.size + 1, 0, none⟩), .pointer (some ⟨w.heap.size, 0, none⟩), .pointer (some ⟨w.heap.size + 1 + 1, 0, none⟩)]] (gotT w ao xs.length c most) fun e w' => e = .returned (.int .i64 x) ∧ Below w.heap.size w w') := hc
  clear hc
  go_enter Tryz.func82, Tryz.ntmps82
  go_wp2_with fail
  refine HC.out.mono ?_
  rintro e w1 ⟨rfl, hb⟩
  clear HC
  go_wp2_with fail
  refine (grown_any ao xs.length c xs 0 w1 (h.later hb) rfl hl (by decide) (by decide)).mono ?_
  rintro e w2 ⟨rfl, hown, hb2⟩
  have hb3 : Below w.heap.size w w2 := hb.trans (hb2.mono hb.size)
  have R := By.own hown (by simp; omega)
  clear hown hb2
  go_wp2
  go_ret3
  exact ⟨_, _, rfl, R, hb3⟩
end
end Go.Proofs.YtpnpjblohijajabGreat
