/- What was put is read back, and what was spoilt is not: WireBack. Written by tools/bgen12.py. -/
import Derived.Test.YtmkmlfdgakcidaaGreatDoorWireKnown
import Derived.Test.YtmkmlfdgakcidaaGreatDoorWireFew
import Derived.Test.YtmkmlfdgakcidaaGreatDoorBytesOwn
namespace Go.Proofs.YtmkmlfdgakcidaaGreatDoor
set_option linter.unusedSimpArgs false
set_option linter.unusedVariables false
set_option maxRecDepth 100000
open Go.RowKit

theorem xor_self_of {a y : UInt8} (h : y = UInt8.ofNat (a.toNat ^^^ 0)) : y = a := by
  rw [h, Nat.xor_zero, UInt8.ofNat_toNat]
theorem xor_ne {a : UInt8} {b : Nat} (hb : b < 256) (h0 : b ≠ 0) : a ≠ UInt8.ofNat (a.toNat ^^^ b) := fun e => by
  have hx : a.toNat < 256 := a.toNat_lt
  have hl : a.toNat ^^^ b < 2 ^ 8 := Nat.xor_lt_two_pow (by omega) (by omega)
  have e2 : a.toNat = a.toNat ^^^ b := by
    have := congrArg UInt8.toNat e
    rwa [UInt8.toNat_ofNat', Nat.mod_eq_of_lt hl] at this
  have e3 : a.toNat ^^^ a.toNat = a.toNat ^^^ (a.toNat ^^^ b) := congrArg (fun z => a.toNat ^^^ z) e2
  rw [Nat.xor_self, ← Nat.xor_assoc, Nat.xor_self, Nat.zero_xor] at e3
  omega
/-- What Decode tells of bytes with one turned. -/
theorem turned_dec {m : MsgV} (ho : MsgOk m) (h : isMsg m = true) {k : Nat} (hk : k < (sumB (msgB m)).length) {b : Nat} (hb : b < 256) : ((decM ((sumB (msgB m)).set k (UInt8.ofNat ((sumB (msgB m))[k].toNat ^^^ b)))).2 = 0) ↔ b = 0 := by
  constructor
  · intro e
    refine Classical.byContradiction fun h0 => ?_
    exact dec_turned ho h hk (xor_ne hb h0) e
  · rintro rfl
    rw [Nat.xor_zero, UInt8.ofNat_toNat, List.set_getElem_self, dec_back ho h]
theorem byteB (w : World) (b : Nat) (hb : b < 256) : By (w.alloc (.cells #[.int .u8 (b : Int)] 5)) (some ⟨w.heap.size, 0, none⟩) 1 [UInt8.ofNat b] := by
  have h := Has.new w 5 #[.int .u8 (b : Int)]
  refine ⟨Nat.le_refl _, by decide, (fun h => by cases h), fun ad had j u hu => ?_⟩
  obtain rfl := Option.some.inj had
  have hj : j < 1 := (List.getElem?_eq_some_iff.1 hu).1
  have : j = 0 := by omega
  subst this
  have e := h.cell 0
  rw [show ((⟨w.heap.size, 0, none⟩ : Addr).add 0) = ⟨w.heap.size, 0, none⟩ from rfl, e]
  have e8 : B (UInt8.ofNat b) = .int .u8 (b : Int) := by unfold B; rw [UInt8.toNat_ofNat', Nat.mod_eq_of_lt hb]
  rw [← hu]
  show some _ = some (B (UInt8.ofNat b))
  rw [e8]
  rfl
set_option maxHeartbeats 40000000 in
theorem back_walk (m : MsgV) (a1 a2 a3 : Option Addr) (c1 c2 c3 p b : Nat) (w : World) (hm0 : MsgIn m) (s1 : Sl w a1 c1 8 (entR m.st.log)) (s2 : Sl w a2 c2 8 (entR m.diff.log)) (s3 : Sl w a3 c3 8 (entR m.diff.whole.log)) (hp : p < 65536) (hb256 : b < 256) (hL : Laid w) :
    Calls Tryz.prog 5 #[.agg (msgC m a1 c1 a2 c2 a3 c3), .int .u16 (p : Nat), .int .u8 (b : Nat)] w fun e w' => e = .returned (.bool true) ∧ Below w.heap.size w w' := by
  obtain ⟨w1, hw1, hX, hb1⟩ := one_var w 48 (msgC m a1 c1 a2 c2 a3 c3)
  have hk := wknown_any w1 (hL.next hb1)
  replace hk : Hid _ := hk
  go_enter Tryz.func5, Tryz.ntmps5
  go_wp2_with fail
  refine Calls.mono hk.out ?_
  rintro e w2 ⟨rfl, hq⟩
  clear hk hw1
  replace hX := hX.later hq
  have hb2 := hb1.trans (hq.mono hb1.size)
  clear hq hb1
  go_wp2_with (first
    | (refine wpList_load_has (by rfl) 48 _ rfl w.heap.size rfl 48 (msgC m a1 c1 a2 c2 a3 c3) _ Tryz.underlying48 rfl (msg_size m a1 a2 a3 c1 c2 c3) ?hg ?_; (case hg => exact hX))
    | fail)
  refine (few_any m a1 a2 a3 c1 c2 c3 _ hm0 (s1.later hb2) (s2.later hb2) (s3.later hb2)).mono ?_
  rintro e w3 ⟨⟨bb, rfl, hbt⟩, hq⟩
  replace hX := hX.later hq
  have hb3 := hb2.trans (hq.mono hb2.size)
  clear hq hb2
  cases bb with
  | false =>
    clear hbt
    go_wp2
    go_ret
    exact ⟨rfl, hb3⟩
  | true =>
  obtain ⟨k1, k2, k3⟩ := hbt rfl
  have hm : MsgOk m := hm0.ok (by omega) (by omega) (by omega)
  clear hbt k1 k2 k3 hm0
  have sm3 : MsgSl w3 m a1 c1 a2 c2 a3 c3 := ⟨s1.later hb3, s2.later hb3, s3.later hb3⟩
  go_wp2_with (first
    | (refine wpList_load_has (by rfl) 48 _ rfl w.heap.size rfl 48 (msgC m a1 c1 a2 c2 a3 c3) _ Tryz.underlying48 rfl (msg_size m a1 a2 a3 c1 c2 c3) ?hg ?_; (case hg => exact hX))
    | fail)
  refine (wis_any m a1 a2 a3 c1 c2 c3 _ hm sm3).mono ?_
  rintro e w4 ⟨rfl, hq⟩
  replace hX := hX.later hq
  have hb4 := hb3.trans (hq.mono hb3.size)
  clear hq hb3 sm3
  cases hi : isMsg m with
  | false =>
    go_wp2
    go_ret
    exact ⟨rfl, hb4⟩
  | true =>
  replace hi : Hid _ := hi
  have sm4 : MsgSl w4 m a1 c1 a2 c2 a3 c3 := ⟨s1.later hb4, s2.later hb4, s3.later hb4⟩
  have hE := wencode_yes m a1 a2 a3 c1 c2 c3 w4 hm sm4 hi.out
  obtain ⟨xs, hxs⟩ : ∃ l, sumB (msgB m) = l := ⟨_, rfl⟩
  rw [hxs] at hE
  have hlen : 15 ≤ xs.length ∧ xs.length ≤ 2000 := by
    have := msgB_length (isMsg_G hm hi.out)
    rw [← hxs, sumB_length]
    omega
  have hdec : decM xs = (m, 0) := by rw [← hxs]; exact dec_back hm hi.out
  have hless : ∀ k, k < xs.length → (decM (xs.take k)).2 ≠ 0 := fun k hk => by rw [← hxs] at hk ⊢; exact dec_less hm hi.out hk
  have hmore : (decM (xs ++ [UInt8.ofNat b])).2 ≠ 0 := by rw [← hxs]; exact dec_more hm hi.out (by simp)
  have hturn : ∀ k (hk : k < xs.length), ((decM (xs.set k (UInt8.ofNat (xs[k].toNat ^^^ b)))).2 = 0) ↔ b = 0 := fun k hk => by subst hxs; exact turned_dec hm hi.out hk hb256
  replace hE : Hid _ := hE
  replace hdec : Hid _ := hdec
  replace hless : Hid _ := hless
  replace hmore : Hid _ := hmore
  replace hturn : Hid _ := hturn
  clear hxs sm4
  go_wp2_with (first
    | (refine wpList_load_has (by rfl) 48 _ rfl w.heap.size rfl 48 (msgC m a1 c1 a2 c2 a3 c3) _ Tryz.underlying48 rfl (msg_size m a1 a2 a3 c1 c2 c3) ?hg ?_; (case hg => exact hX))
    | fail)
  refine Calls.mono hE.out ?_
  rintro e w5 ⟨g5, k5, rfl, ho5, hB5, hq⟩
  clear hE
  replace hX := hX.later hq
  have hb5 := hb4.trans (hq.mono hb4.size)
  have hg5 := ho5.lt g5 rfl
  clear hq hb4 ho5
  have hD := wdecode_any (some ⟨g5, 0, none⟩) xs.length k5 xs w5 hB5 rfl (fun ad had => by obtain rfl := Option.some.inj had; exact hg5.2) (hL.next hb5)
  rw [hdec.out] at hD
  replace hD : Hid _ := hD
  go_wp2_with fail
  refine Calls.mono hD.out ?_
  rintro e w6 ⟨hq, b1, d1, b2, d2, b3, d3, rfl, sm6⟩
  clear hD
  replace hX := hX.later hq
  have hB6 := hB5.later hq
  have hb6 := hb5.trans (hq.mono hb5.size)
  have hg6 : g5 < w6.heap.size := Nat.lt_of_lt_of_le hg5.2 hq.size
  have hg4 := hg5.1
  clear hq hB5 hg5 hb5
  obtain ⟨w7, hw7, hV, hq⟩ := new_var w6 48 (msgC msg0 none 0 none 0 none 0) (msgC m b1 d1 b2 d2 b3 d3)
  replace hX := hX.later hq
  have hB7 := hB6.later hq
  have sm7 := sm6.later hq
  have hb7 := hb6.trans (hq.mono hb6.size)
  have hg7 : g5 < w7.heap.size := Nat.lt_of_lt_of_le hg6 hq.size
  clear hq hB6 sm6 hb6 hg6
  have hl1 := hlen.1
  have hl2 := hlen.2
  clear hlen
  obtain ⟨ln, hln⟩ : ∃ n, xs.length = n := ⟨_, rfl⟩
  rw [hln] at hl1 hl2 ⊢
  have hcap7 := hB7.cap
  have hle7 : ln ≤ k5 := by have := hB7.le; omega
  replace hln : Hid _ := hln
  have sm7m : MsgSl w7 m a1 c1 a2 c2 a3 c3 := ⟨s1.later hb7, s2.later hb7, s3.later hb7⟩
  go_wp2_with (first
    | (refine wpList_alloc_has (by rfl) 48 rfl (msgC msg0 none 0 none 0 none 0) msg_zero ?_)
    | (refine wpList_store_to (by rfl) 48 _ _ rfl w6.heap.size rfl (msgC m b1 d1 b2 d2 b3 d3) rfl 48 (msgC msg0 none 0 none 0 none 0) (msg_size m b1 b2 b3 d1 d2 d3) (msg_same _ _ _ _ _ _ _ _ _ _ _ _ _ _) (msg_one m b1 b2 b3 d1 d2 d3) ?hg w7 ?hW ?_; (case hg => exact Has.new _ _ _); (case hW => exact hw7); clear hw7)
    | (refine wpList_load_has (by rfl) 48 _ rfl w.heap.size rfl 48 (msgC m a1 c1 a2 c2 a3 c3) _ Tryz.underlying48 rfl (msg_size m a1 a2 a3 c1 c2 c3) ?hg ?_; (case hg => exact hX))
    | (refine wpList_load_has (by rfl) 48 _ rfl w6.heap.size rfl 48 (msgC m b1 d1 b2 d2 b3 d3) _ Tryz.underlying48 rfl (msg_size m b1 b2 b3 d1 d2 d3) ?hg ?_; (case hg => exact hV))
    | fail)
  refine (wsame_any m m a1 a2 a3 b1 b2 b3 c1 c2 c3 d1 d2 d3 _ hm hm sm7m sm7).mono ?_
  rintro e w8 ⟨rfl, hq⟩
  rw [(sameMsg_is m m).2 rfl]
  have hB8 := hB7.later hq
  have hb8 := hb7.trans (hq.mono hb7.size)
  have hg8 : g5 < w8.heap.size := Nat.lt_of_lt_of_le hg7 hq.size
  clear hq hB7 sm7 sm7m hb7 hg7 hX hV
  have hlI : ¬ (2000 : Int) < (ln : Int) := by omega
  have hl0 : (ln : Int) ≠ 0 := by omega
  go_wp2_with (first
    | (refine wpList_copy _ rfl _ _ rfl w8.heap.size (some ⟨g5, 0, none⟩) ln k5 xs rfl rfl hB8 hln.out.symm (by omega) (Nat.le_refl _) ?_)
    | fail)
  intro ao9 c9 w9 ho9 hB9 hq9
  obtain ⟨g9, cc9, hv9, hg9, hcap9⟩ := own_form ho9 (by omega)
  obtain ⟨rfl, -, rfl⟩ : ao9 = some ⟨g9, 0, none⟩ ∧ ln = ln ∧ c9 = cc9 := by injection hv9 with h1 h2 h3; exact ⟨h1, rfl, h3⟩
  clear hv9
  have hB8' := hB8.later hq9
  have hb9 := hb8.trans (hq9.mono hb8.size)
  have hgl9 : g9 < w9.heap.size := (ho9.lt g9 rfl).2
  have hg89 : g5 < w9.heap.size := Nat.lt_of_lt_of_le hg8 hq9.size
  obtain ⟨kq, hkq⟩ : ∃ k, p % ln = k := ⟨_, rfl⟩
  have hkl : kq < ln := by rw [← hkq]; exact Nat.mod_lt _ (by omega)
  have hkI : (p : Int) % (ln : Int) = (kq : Int) := by rw [← hkq]; rfl
  have hkx : kq < xs.length := by rw [hln.out]; exact hkl
  have hkL : (kq : Int) < (ln : Int) := by omega
  have hcell := hB9.cell kq hkx
  rw [Addr.add_lit, Nat.zero_add] at hcell
  have hz := ho9.frozenAt kq
  rw [hkI]
  have hw8 : w.heap.size ≤ w8.heap.size := hb8.size
  replace hkI : Hid _ := hkI
  replace hkq : Hid _ := hkq
  replace hkx : Hid _ := hkx
  have ho9' : Hid _ := ho9
  clear ho9 hB8 hB9 hb8 hq9
  obtain ⟨xb, hxb⟩ : ∃ v, (xs[kq]'hkx.out) = v := ⟨_, rfl⟩
  rw [hxb] at hcell
  replace hxb : Hid _ := hxb
  go_wp2_with fail
  rw [turned xb (b : Int) (by omega) (by omega), Int.toNat_natCast]
  obtain ⟨y, hy⟩ : ∃ y, UInt8.ofNat (xb.toNat ^^^ b) = y := ⟨_, rfl⟩
  rw [hy]
  have hBt := own_set ho9'.out kq hkx.out y hcap9
  have hiff : (decM (xs.set kq y)).2 = 0 ↔ b = 0 := by
    have := hturn.out kq hkx.out
    rw [hxb.out, hy] at this
    exact this
  have hbt := hb9.setCell (p := ⟨g9, kq, none⟩) (Nat.le_trans hw8 hg9) (B y)
  have hB5t := hB8'.kept (p := ⟨g9, kq, none⟩) (fun ad had _ => by obtain rfl := Option.some.inj had; show g5 ≠ g9; omega) (B y)
  have hszt : (w9.setCell ⟨g9, kq, none⟩ (B y)).heap.size = w9.heap.size := by simp [World.setCell]
  replace hiff : Hid _ := hiff
  generalize w9.setCell ⟨g9, kq, none⟩ (B y) = w10 at *
  clear hcell hz hy hxb ho9' hb9 hB8' hturn
  have hD := wdecode_any (some ⟨g9, 0, none⟩) ln c9 (xs.set kq y) w10 hBt (by rw [List.length_set]; exact hln.out.symm) (fun ad had => by obtain rfl := Option.some.inj had; show g9 < _; omega) (hL.next hbt)
  obtain ⟨e1, he1⟩ : ∃ n, (decM (xs.set kq y)).2 = n := ⟨_, rfl⟩
  obtain ⟨m1, hm1⟩ : ∃ n, (decM (xs.set kq y)).1 = n := ⟨_, rfl⟩
  rw [he1, hm1] at hD
  have hi1 : Hid (e1 = 0 ↔ b = 0) := by rw [← he1]; exact hiff.out
  clear he1 hm1 hiff hBt
  refine hD.mono ?_
  rintro e w11 ⟨hq, f1, u1, f2, u2, f3, u3, rfl, -⟩
  clear hD
  have hB11 := hB5t.later hq
  have hb11 := hbt.trans (hq.mono hbt.size)
  have hg11 : g5 < w11.heap.size := Nat.lt_of_lt_of_le (by omega) hq.size
  clear hq hB5t hbt hszt hgl9 hg89
  obtain ⟨w12, hw12, -, hq⟩ := new_var w11 48 (msgC msg0 none 0 none 0 none 0) (msgC m1 f1 u1 f2 u2 f3 u3)
  have hB12 := hB11.later hq
  have hb12 := hb11.trans (hq.mono hb11.size)
  have hg12 : g5 < w12.heap.size := Nat.lt_of_lt_of_le hg11 hq.size
  clear hq hB11 hb11 hg11
  have hkc : (kq : Int) ≤ (k5 : Int) := by omega
  have hD := wdecode_any (some ⟨g5, 0, none⟩) kq k5 (xs.take kq) w12 (hB12.first kq) (by rw [List.length_take, hln.out]; omega) (fun ad had => by obtain rfl := Option.some.inj had; exact hg12) (hL.next hb12)
  obtain ⟨e2, he2⟩ : ∃ n, (decM (xs.take kq)).2 = n := ⟨_, rfl⟩
  obtain ⟨m2, hm2⟩ : ∃ n, (decM (xs.take kq)).1 = n := ⟨_, rfl⟩
  rw [he2, hm2] at hD
  have hn2 : e2 ≠ 0 := by rw [← he2]; exact hless.out kq hkx.out
  clear he2 hm2 hless
  replace hD : Hid _ := hD
  go_wp2_with (first
    | (refine wpList_alloc_has (by rfl) 48 rfl (msgC msg0 none 0 none 0 none 0) msg_zero ?_)
    | (refine wpList_store_to (by rfl) 48 _ _ rfl w11.heap.size rfl (msgC m1 f1 u1 f2 u2 f3 u3) rfl 48 (msgC msg0 none 0 none 0 none 0) (msg_size m1 f1 f2 f3 u1 u2 u3) (msg_same _ _ _ _ _ _ _ _ _ _ _ _ _ _) (msg_one m1 f1 f2 f3 u1 u2 u3) ?hg w12 ?hW ?_; (case hg => exact Has.new _ _ _); (case hW => exact hw12); clear hw12)
    | fail)
  refine Calls.mono hD.out ?_
  rintro e w13 ⟨hq, f4, u4, f5, u5, f6, u6, rfl, -⟩
  clear hD
  have hB13 := hB12.later hq
  have hb13 := hb12.trans (hq.mono hb12.size)
  clear hq hB12 hb12 hg12
  obtain ⟨w14, hw14, -, hq⟩ := new_var w13 48 (msgC msg0 none 0 none 0 none 0) (msgC m2 f4 u4 f5 u5 f6 u6)
  have hB14 := hB13.later hq
  have hb14 := hb13.trans (hq.mono hb13.size)
  clear hq hB13 hb13
  go_wp2_with (first
    | (refine wpList_alloc_has (by rfl) 48 rfl (msgC msg0 none 0 none 0 none 0) msg_zero ?_)
    | (refine wpList_store_to (by rfl) 48 _ _ rfl w13.heap.size rfl (msgC m2 f4 u4 f5 u5 f6 u6) rfl 48 (msgC msg0 none 0 none 0 none 0) (msg_size m2 f4 f5 f6 u4 u5 u6) (msg_same _ _ _ _ _ _ _ _ _ _ _ _ _ _) (msg_one m2 f4 f5 f6 u4 u5 u6) ?hg w14 ?hW ?_; (case hg => exact Has.new _ _ _); (case hW => exact hw14); clear hw14)
    | (refine wpList_copy _ rfl _ _ rfl w14.heap.size (some ⟨g5, 0, none⟩) ln k5 xs rfl rfl hB14 hln.out.symm (by omega) (Nat.le_refl _) ?_)
    | fail)
  intro ao15 c15 w15 ho15 hB15 hq15
  have hb15 := hb14.trans (hq15.mono hb14.size)
  have hs15 := hb14.size
  have hl15 : w14.heap.size ≤ w15.heap.size := hq15.size
  clear hB14 hb14 hB15 hq15
  have hBb := byteB w15 b hb256
  have hq16 : Below w15.heap.size w15 (w15.alloc (.cells #[.int .u8 (b : Int)] 5)) := (Below.refl _ _).alloc (Nat.le_refl _) _
  have hb16 := hb15.trans (hq16.mono hb15.size)
  have ho16 := ho15.alloc (.cells #[.int .u8 (b : Int)] 5)
  have hl16 : w14.heap.size ≤ (w15.alloc (.cells #[.int .u8 (b : Int)] 5)).heap.size := Nat.le_trans hl15 hq16.size
  obtain ⟨w16, hw16⟩ : ∃ W, w15.alloc (.cells #[.int .u8 (b : Int)] 5) = W := ⟨_, rfl⟩
  rw [hw16] at hBb hb16 ho16 hl16
  clear hq16 ho15 hb15
  go_wp2_with (first
    | (refine wpList_appB _ rfl _ _ rfl w14.heap.size _ ln xs rfl ⟨w15.heap.size, 0, none⟩ 1 1 [UInt8.ofNat b] rfl ?ho ?hB rfl (by omega) ?hl ?_; (case ho => exact ho16); (case hB => exact hBb); (case hl => exact hl16))
    | fail)
  intro ao17 c17 w17 ho17 hB17 hq17
  have hb17 : Below w.heap.size w w17 := hb16.trans (hq17.mono hs15)
  have hfar := own_far ho17 rfl
  clear hq17 hb16 ho16 hBb hl16 hw16
  have hD := wdecode_any ao17 (ln + 1) c17 (xs ++ [UInt8.ofNat b]) w17 hB17 (by rw [List.length_append, hln.out]; rfl) (fun ad had => (hfar ad had).2) (hL.next hb17)
  obtain ⟨e3, he3⟩ : ∃ n, (decM (xs ++ [UInt8.ofNat b])).2 = n := ⟨_, rfl⟩
  obtain ⟨m3, hm3⟩ : ∃ n, (decM (xs ++ [UInt8.ofNat b])).1 = n := ⟨_, rfl⟩
  rw [he3, hm3] at hD
  have hn3 : e3 ≠ 0 := by rw [← he3]; exact hmore.out
  clear he3 hm3 hmore hB17 ho17
  replace hD : Hid _ := hD
  go_wp2_with fail
  refine Calls.mono hD.out ?_
  rintro e w18 ⟨hq, f7, u7, f8, u8, f9, u9, rfl, -⟩
  clear hD
  have hb18 := hb17.trans (hq.mono hb17.size)
  obtain ⟨w19, hw19, -, hq19⟩ := new_var w18 48 (msgC msg0 none 0 none 0 none 0) (msgC m3 f7 u7 f8 u8 f9 u9)
  have hb19 := hb18.trans (hq19.mono hb18.size)
  clear hq hq19 hb17 hb18
  have n21 : ((e2 : Int) == 0) = false := by simp; omega
  have n22 : ¬ (e2 : Int) = 0 := by omega
  have n23 : ((e2 : Int) != 0) = true := by simp; omega
  have n31 : ((e3 : Int) == 0) = false := by simp; omega
  have n32 : ¬ (e3 : Int) = 0 := by omega
  have n33 : ((e3 : Int) != 0) = true := by simp; omega
  clear hn2 hn3
  by_cases h0 : b = 0
  · subst h0
    obtain rfl := hi1.out.2 rfl
    clear hi1
    go_wp2_with (first
      | (refine wpList_alloc_has (by rfl) 48 rfl (msgC msg0 none 0 none 0 none 0) msg_zero ?_)
      | (refine wpList_store_to (by rfl) 48 _ _ rfl w18.heap.size rfl (msgC m3 f7 u7 f8 u8 f9 u9) rfl 48 (msgC msg0 none 0 none 0 none 0) (msg_size m3 f7 f8 f9 u7 u8 u9) (msg_same _ _ _ _ _ _ _ _ _ _ _ _ _ _) (msg_one m3 f7 f8 f9 u7 u8 u9) ?hg w19 ?hW ?_; (case hg => exact Has.new _ _ _); (case hW => exact hw19); clear hw19)
      | fail)
    go_ret
    exact ⟨rfl, hb19⟩
  · have hne1 : e1 ≠ 0 := fun e => h0 (hi1.out.1 e)
    have n11 : ((e1 : Int) == 0) = false := by simp; omega
    have n12 : ¬ (e1 : Int) = 0 := by omega
    clear hne1
    have n41 : ((b : Int) == 0) = false := by simp; omega
    have n42 : ¬ (b : Int) = 0 := by omega
    clear hi1 h0
    go_wp2_with (first
      | (refine wpList_alloc_has (by rfl) 48 rfl (msgC msg0 none 0 none 0 none 0) msg_zero ?_)
      | (refine wpList_store_to (by rfl) 48 _ _ rfl w18.heap.size rfl (msgC m3 f7 u7 f8 u8 f9 u9) rfl 48 (msgC msg0 none 0 none 0 none 0) (msg_size m3 f7 f8 f9 u7 u8 u9) (msg_same _ _ _ _ _ _ _ _ _ _ _ _ _ _) (msg_one m3 f7 f8 f9 u7 u8 u9) ?hg w19 ?hW ?_; (case hg => exact Has.new _ _ _); (case hW => exact hw19); clear hw19)
      | fail)
    go_ret
    exact ⟨rfl, hb19⟩
end Go.Proofs.YtmkmlfdgakcidaaGreatDoor
