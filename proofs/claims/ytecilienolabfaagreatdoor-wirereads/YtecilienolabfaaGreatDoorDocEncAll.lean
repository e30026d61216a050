/- DocEncLow, DocEncA, DocEncB, DocEncC, DocEncD, DocEncE, DocEncF, DocEncG, DocEnc, joined. -/
import Derived.Test.YtecilienolabfaaGreatDoorDocIsAll
import Derived.Test.YtecilienolabfaaGreatDoorRefPuts
namespace Go.Proofs.YtecilienolabfaaGreatDoor
set_option linter.unusedSimpArgs false
set_option linter.unusedVariables false
set_option maxRecDepth 100000
open Go.RowKit
theorem xbk:(48:TypeId) ≠ 5:=by decide
theorem opB_len {o:OpV} (h:OpG o):(opB o).length ≤ 200:=by
 have:=h.len
 unfold opB textB
 simp [xal]
 omega
def EncR (w:World) (m:MsgV) (en:Ending) (w':World):Prop:=∃ g c,en = .returned (.tuple #[.slice (some ⟨g,0,none⟩) (sumB (msgB m)).length c,.int .i64 0]) ∧ w'.ownsRow w.heap.size 5 1 (.slice (some ⟨g,0,none⟩) (sumB (msgB m)).length c) (sumB (msgB m)).length (Bs (sumB (msgB m))) ∧ By w' (some ⟨g,0,none⟩) c (sumB (msgB m)) ∧ Below w.heap.size w w'
theorem own_b3 (w:World) (base a b c:Nat) (ha:a < 256) (hb:b < 256) (hc:c < 256) (hB:base ≤ w.heap.size):OwnV (w.alloc (.cells #[.int .u8 (a:Int),.int .u8 (b:Int),.int .u8 (c:Int)] 5)) base (.slice (some ⟨w.heap.size,0,none⟩) 3 3) (putB a 1 ++ (putB b 1 ++ putB c 1)):=by
 have e:Bs (putB a 1 ++ (putB b 1 ++ putB c 1)) = [.int .u8 (a:Int),.int .u8 (b:Int),.int .u8 (c:Int)]:=by
  simp [Bs,B,putB,UInt8.toNat_ofNat,Nat.mod_eq_of_lt ha,Nat.mod_eq_of_lt hb,Nat.mod_eq_of_lt hc]
 refine ⟨?_,?_,by simp [xal]⟩
 ·rw [e]
  have hl:(putB a 1 ++ (putB b 1 ++ putB c 1)).length = 3:=by simp [xal]
  rw [hl]
  exact ⟨rfl,.inr ⟨w.heap.size,3,#[.int .u8 (a:Int),.int .u8 (b:Int),.int .u8 (c:Int)],rfl,hB,by show (w.heap.push _)[w.heap.size]? = _;exact Array.getElem?_push_size,by decide,by decide,rfl,rfl⟩⟩
 ·have:=((Below.refl w.heap.size w).alloc (Nat.le_refl _) (.cells #[.int .u8 (a:Int),.int .u8 (b:Int),.int .u8 (c:Int)] 5)).size
  omega
theorem bit_ex (x:Bool):∃ n:Nat,n < 256 ∧ flagB x = putB n 1 ∧ ∀ w,Calls Tryz.prog 33 #[.bool x] w fun e w'=>e = .returned (.int .u8 (n:Int)) ∧ w' = w :=
 ⟨if x = true then 1 else 0,by split <;> decide,rfl,fun w=>bit_any x w⟩
theorem xdl (ao:Option Addr) (n c:Nat) (xs:List UInt8) (w:World) (h:By w ao c xs) (hn:n = xs.length) :
  Calls Tryz.prog 39 #[.slice ao n c] w fun e w'=>e = .returned (.int .u64 (sumN xs:Int)) ∧ w' = w:=by
 subst hn
 have hle:=h.le
 have hcap:=h.cap
 go_enter Tryz.func39,Tryz.ntmps39
 go_wp2
 go_loop [3,4] (fun s i=>∃ k:Nat,k ≤ xs.length ∧ i = .int .i64 k ∧ s = .int .u64 (sumN (xs.take k):Int)) (fun _ i=>xs.length - (intOf i).toNat)
 case atStart=>exact ⟨0,Nat.zero_le _,rfl,rfl⟩
 case round =>
  obtain ⟨k,hk,rfl,rfl⟩:=hrel
  by_cases hlt:k < xs.length
  ·cases ao with
   | none=>have:=h.nil rfl;omega
   | some ad =>
    have hc:=h.cell k hlt
    have hs:=xdi (xs.take k)
    have hx:xs[k].toNat < 256:=xs[k].toNat_lt
    have HS:Hid _:=sum_take xs k hlt
    go_wp2
    go_round
    case rel=>exact ⟨k + 1,by omega,by go_num,by rw [HS.out]⟩
    case measure=>simp [intOf];omega
  ·go_wp2
   go_ret
   exact ⟨by rw [List.take_of_length_le (by omega)];rfl,rfl⟩
set_option maxHeartbeats 4000000 in
theorem denc_no (m:MsgV) (a1 a2 a3:Option Addr) (c1 c2 c3:Nat) (w:World) (hm:MsgOk m) (sm:MsgSl w m a1 c1 a2 c2 a3 c3) (hi:isMsg m = false):Calls Tryz.prog 12 #[.agg (msgC m a1 c1 a2 c2 a3 c3)] w fun en w'=>en = .returned (.tuple #[.slice none 0 0,.int .i64 10]) ∧ Below w.heap.size w w':=by
 obtain ⟨w1,hw1,hX,hb⟩:=xbr w 48 (msgC m a1 c1 a2 c2 a3 c3)
 replace hi:Hid _:=hi
 go_enter Tryz.func12,Tryz.ntmps12
 go_wp2_with (first
  | (refine xab (by rfl) 48 _ rfl w.heap.size rfl 48 (msgC m a1 c1 a2 c2 a3 c3) _ Tryz.underlying48 rfl (xah m a1 a2 a3 c1 c2 c3) ?hg ?_;(case hg=>exact hX))
  | fail)
 refine (xfp m a1 a2 a3 c1 c2 c3 _ hm (sm.later hb)).mono ?_
 rintro en w2 ⟨rfl,hq⟩
 rw [hi.out]
 replace hb:=hb.trans (hq.mono hb.size)
 clear hq hw1 sm hX
 go_wp2
 go_ret2
 exact ⟨rfl,hb⟩

set_option maxHeartbeats 40000000 in
theorem denc_A (m:MsgV) (a1 a2 a3:Option Addr) (c1 c2 c3:Nat) (w:World) (hm:MsgOk m) (hkk:m.kind = 1 ∨ m.kind = 4 ∨ m.kind = 18) (sm:MsgSl w m a1 c1 a2 c2 a3 c3) (hi:isMsg m = true):Calls Tryz.prog 12 #[.agg (msgC m a1 c1 a2 c2 a3 c3)] w (EncR w m):=by
 obtain ⟨w1,hw1,hX,hb⟩:=xbr w 48 (msgC m a1 c1 a2 c2 a3 c3)
 have hG:=xhi hm hi
 obtain ⟨_,hfit,_⟩:=xch.1 hi
 have hF0:=xhl _ _ hfit
 have hF:Hid (((shapeM m.kind).st = true → isSt m.st = true) ∧ ((shapeM m.kind).dif = true → xcq m.diff = true)):=⟨hF0.1,hF0.2.1⟩
 obtain ⟨hl1,hl2⟩:=xdp hG
 have hsl:Hid (∀ W,Below w.heap.size w W → MsgSl W m a1 c1 a2 c2 a3 c3):=fun W h=>sm.later h
 have sl:=hsl
 clear hsl
 replace hG:Hid _:=hG
 replace hi:Hid _:=hi
 clear hfit hF0
 obtain ⟨kk,hkE⟩:∃ k,m.kind = k:=⟨_,rfl⟩
 rw [hkE] at hkk
 replace hkE:Hid _:=hkE
 replace hkk:Hid _:=hkk
 go_enter Tryz.func12,Tryz.ntmps12
 go_wp2_with (first
  | (refine xab (by rfl) 48 _ rfl w.heap.size rfl 48 (msgC m a1 c1 a2 c2 a3 c3) _ Tryz.underlying48 rfl (xah m a1 a2 a3 c1 c2 c3) ?hg ?_;(case hg=>exact hX))
  | fail)
 refine (xfp m a1 a2 a3 c1 c2 c3 _ hm (sm.later hb)).mono ?_
 rintro en w2 ⟨rfl,hq⟩
 rw [hi.out]
 replace hX:=hX.later hq
 replace hb:=hb.trans (hq.mono hb.size)
 clear hq hw1 sm
 have y0:=hX.mc_kind
 have y1:=hX.mc_src
 have y2:=hX.mc_dst
 have hv3:=own_b3 w2 w.heap.size m.kind m.src m.dst hm.kind hm.src hm.dst hb.size
 have hq3:Below w2.heap.size w2 (w2.alloc (.cells #[.int .u8 (m.kind:Int),.int .u8 (m.src:Int),.int .u8 (m.dst:Int)] 5)):=(Below.refl _ _).alloc (Nat.le_refl _) _
 have y3:=(hX.later hq3).mc_epoch
 go_wp2_with fail
 refine (xcs w.heap.size _ _ m.epoch _ hv3 hm.epoch (by simp [xal])).mono ?_
 rintro en w4x ⟨v4,rfl,hv4,ow4⟩
 have oB:OffB w.heap.size w w4x:=(OffB.of (hb.trans (hq3.mono hb.size)) (Nat.le_refl _)).trans ow4
 replace hX:=ow4.keep _ _ _ (hX.later hq3) xbk
 clear y0 y1 y2 y3 hv3 hq3 ow4 hb
 have x0:=hX.mc_kind
 rw [hkE.out] at x0
 have n1:True:=trivial
 rcases hkk.out with rfl | rfl | rfl
 ·obtain ⟨w4,hw4⟩:∃ W,W = w4x:=⟨_,rfl⟩
  subst hw4
  replace hkE:=hkE.out
  clear hkk n1
  have hB:Hid (msgB m = putB m.kind 1 ++ (putB m.src 1 ++ (putB m.dst 1 ++ (putB m.epoch 4 ++ balB m.b)))):=by show _ = _;unfold msgB;rw [hkE];simp [shapeM,ifB]
  go_wp2_with (first
   | (refine xae (by rfl) 24 _ rfl w.heap.size 4 rfl ((balC m.b).toList) _ ?hc Tryz.underlying24 rfl (xbx m.b) ?_;(case hc=>exact hX.m_b))
   | fail)
  refine (rbal_any w.heap.size v4 _ m.b w4 hv4 hm.b (by simp [xal,xdc];try omega)).mono ?_
  rintro en w5 ⟨v5,rfl,hv5,ow5⟩
  replace oB:=oB.trans ow5
  have hvF:OwnV w5 w.heap.size v5 (msgB m):=by
   have q:=hv5
   rw [hB.out]
   simpa only [List.append_assoc] using q
  obtain ⟨vF,hvf⟩:∃ V,v5 = V:=⟨_,rfl⟩
  have oF:Hid (OffB w.heap.size w w5):=oB
  clear oB hX hB hv4 hv5
  subst hvf
  obtain ⟨g1,k1,rfl,-,hk1⟩:=xbw hvF.1 (by omega)
  have hBy1:=By.own hvF.1 hk1
  go_wp2_with fail
  refine (xdl _ _ _ _ w5 hBy1 rfl).mono ?_
  rintro en ws ⟨rfl,rfl⟩
  go_wp2_with fail
  refine (rputS w.heap.size _ (msgB m) (sumN (msgB m)) 8 _ hvF (xdi _) (by decide) (by decide) (by omega)).mono ?_
  rintro en wf ⟨vf,rfl,hvf,owf⟩
  replace oF:=oF.out.trans owf
  have hsum:msgB m ++ putB (sumN (msgB m)) 8 = sumB (msgB m):=rfl
  rw [hsum] at hvf
  have hlen:=xbz (msgB m)
  obtain ⟨g2,k2,rfl,-,hk2⟩:=xbw hvf.1 (by omega)
  have hBy2:=By.own hvf.1 hk2
  have hnot:¬ (2000:Int) < ((sumB (msgB m)).length:Int):=by omega
  have hfin:Hid (∃ g c,(Ending.returned (.tuple #[.slice (some ⟨g2,0,none⟩) (sumB (msgB m)).length k2,.int .i64 0]):Ending) = .returned (.tuple #[.slice (some ⟨g,0,none⟩) (sumB (msgB m)).length c,.int .i64 0]) ∧ wf.ownsRow w.heap.size 5 1 (.slice (some ⟨g,0,none⟩) (sumB (msgB m)).length c) (sumB (msgB m)).length (Bs (sumB (msgB m))) ∧ By wf (some ⟨g,0,none⟩) c (sumB (msgB m)) ∧ Below w.heap.size w wf):=⟨g2,k2,rfl,hvf.1,hBy2,oF.below⟩
  clear hvf hBy2 oF hBy1 hvF hsum hlen owf
  go_wp2
  go_ret2
  exact hfin.out
 ·obtain ⟨w4,hw4⟩:∃ W,W = w4x:=⟨_,rfl⟩
  subst hw4
  replace hkE:=hkE.out
  clear hkk n1
  have hB:Hid (msgB m = putB m.kind 1 ++ (putB m.src 1 ++ (putB m.dst 1 ++ (putB m.epoch 4 ++ balB m.b)))):=by show _ = _;unfold msgB;rw [hkE];simp [shapeM,ifB]
  go_wp2_with (first
   | (refine xae (by rfl) 24 _ rfl w.heap.size 4 rfl ((balC m.b).toList) _ ?hc Tryz.underlying24 rfl (xbx m.b) ?_;(case hc=>exact hX.m_b))
   | fail)
  refine (rbal_any w.heap.size v4 _ m.b w4 hv4 hm.b (by simp [xal,xdc];try omega)).mono ?_
  rintro en w5 ⟨v5,rfl,hv5,ow5⟩
  replace oB:=oB.trans ow5
  have hvF:OwnV w5 w.heap.size v5 (msgB m):=by
   have q:=hv5
   rw [hB.out]
   simpa only [List.append_assoc] using q
  obtain ⟨vF,hvf⟩:∃ V,v5 = V:=⟨_,rfl⟩
  have oF:Hid (OffB w.heap.size w w5):=oB
  clear oB hX hB hv4 hv5
  subst hvf
  obtain ⟨g1,k1,rfl,-,hk1⟩:=xbw hvF.1 (by omega)
  have hBy1:=By.own hvF.1 hk1
  go_wp2_with fail
  refine (xdl _ _ _ _ w5 hBy1 rfl).mono ?_
  rintro en ws ⟨rfl,rfl⟩
  go_wp2_with fail
  refine (rputS w.heap.size _ (msgB m) (sumN (msgB m)) 8 _ hvF (xdi _) (by decide) (by decide) (by omega)).mono ?_
  rintro en wf ⟨vf,rfl,hvf,owf⟩
  replace oF:=oF.out.trans owf
  have hsum:msgB m ++ putB (sumN (msgB m)) 8 = sumB (msgB m):=rfl
  rw [hsum] at hvf
  have hlen:=xbz (msgB m)
  obtain ⟨g2,k2,rfl,-,hk2⟩:=xbw hvf.1 (by omega)
  have hBy2:=By.own hvf.1 hk2
  have hnot:¬ (2000:Int) < ((sumB (msgB m)).length:Int):=by omega
  have hfin:Hid (∃ g c,(Ending.returned (.tuple #[.slice (some ⟨g2,0,none⟩) (sumB (msgB m)).length k2,.int .i64 0]):Ending) = .returned (.tuple #[.slice (some ⟨g,0,none⟩) (sumB (msgB m)).length c,.int .i64 0]) ∧ wf.ownsRow w.heap.size 5 1 (.slice (some ⟨g,0,none⟩) (sumB (msgB m)).length c) (sumB (msgB m)).length (Bs (sumB (msgB m))) ∧ By wf (some ⟨g,0,none⟩) c (sumB (msgB m)) ∧ Below w.heap.size w wf):=⟨g2,k2,rfl,hvf.1,hBy2,oF.below⟩
  clear hvf hBy2 oF hBy1 hvF hsum hlen owf
  go_wp2
  go_ret2
  exact hfin.out
 ·obtain ⟨w4,hw4⟩:∃ W,W = w4x:=⟨_,rfl⟩
  subst hw4
  replace hkE:=hkE.out
  clear hkk n1
  have hB:Hid (msgB m = putB m.kind 1 ++ (putB m.src 1 ++ (putB m.dst 1 ++ (putB m.epoch 4 ++ balB m.b)))):=by show _ = _;unfold msgB;rw [hkE];simp [shapeM,ifB]
  go_wp2_with (first
   | (refine xae (by rfl) 24 _ rfl w.heap.size 4 rfl ((balC m.b).toList) _ ?hc Tryz.underlying24 rfl (xbx m.b) ?_;(case hc=>exact hX.m_b))
   | fail)
  refine (rbal_any w.heap.size v4 _ m.b w4 hv4 hm.b (by simp [xal,xdc];try omega)).mono ?_
  rintro en w5 ⟨v5,rfl,hv5,ow5⟩
  replace oB:=oB.trans ow5
  have hvF:OwnV w5 w.heap.size v5 (msgB m):=by
   have q:=hv5
   rw [hB.out]
   simpa only [List.append_assoc] using q
  obtain ⟨vF,hvf⟩:∃ V,v5 = V:=⟨_,rfl⟩
  have oF:Hid (OffB w.heap.size w w5):=oB
  clear oB hX hB hv4 hv5
  subst hvf
  obtain ⟨g1,k1,rfl,-,hk1⟩:=xbw hvF.1 (by omega)
  have hBy1:=By.own hvF.1 hk1
  go_wp2_with fail
  refine (xdl _ _ _ _ w5 hBy1 rfl).mono ?_
  rintro en ws ⟨rfl,rfl⟩
  go_wp2_with fail
  refine (rputS w.heap.size _ (msgB m) (sumN (msgB m)) 8 _ hvF (xdi _) (by decide) (by decide) (by omega)).mono ?_
  rintro en wf ⟨vf,rfl,hvf,owf⟩
  replace oF:=oF.out.trans owf
  have hsum:msgB m ++ putB (sumN (msgB m)) 8 = sumB (msgB m):=rfl
  rw [hsum] at hvf
  have hlen:=xbz (msgB m)
  obtain ⟨g2,k2,rfl,-,hk2⟩:=xbw hvf.1 (by omega)
  have hBy2:=By.own hvf.1 hk2
  have hnot:¬ (2000:Int) < ((sumB (msgB m)).length:Int):=by omega
  have hfin:Hid (∃ g c,(Ending.returned (.tuple #[.slice (some ⟨g2,0,none⟩) (sumB (msgB m)).length k2,.int .i64 0]):Ending) = .returned (.tuple #[.slice (some ⟨g,0,none⟩) (sumB (msgB m)).length c,.int .i64 0]) ∧ wf.ownsRow w.heap.size 5 1 (.slice (some ⟨g,0,none⟩) (sumB (msgB m)).length c) (sumB (msgB m)).length (Bs (sumB (msgB m))) ∧ By wf (some ⟨g,0,none⟩) c (sumB (msgB m)) ∧ Below w.heap.size w wf):=⟨g2,k2,rfl,hvf.1,hBy2,oF.below⟩
  clear hvf hBy2 oF hBy1 hvF hsum hlen owf
  go_wp2
  go_ret2
  exact hfin.out

set_option maxHeartbeats 40000000 in
theorem denc_B (m:MsgV) (a1 a2 a3:Option Addr) (c1 c2 c3:Nat) (w:World) (hm:MsgOk m) (hkk:m.kind = 2 ∨ m.kind = 3) (sm:MsgSl w m a1 c1 a2 c2 a3 c3) (hi:isMsg m = true):Calls Tryz.prog 12 #[.agg (msgC m a1 c1 a2 c2 a3 c3)] w (EncR w m):=by
 obtain ⟨w1,hw1,hX,hb⟩:=xbr w 48 (msgC m a1 c1 a2 c2 a3 c3)
 have hG:=xhi hm hi
 obtain ⟨_,hfit,_⟩:=xch.1 hi
 have hF0:=xhl _ _ hfit
 have hF:Hid (((shapeM m.kind).st = true → isSt m.st = true) ∧ ((shapeM m.kind).dif = true → xcq m.diff = true)):=⟨hF0.1,hF0.2.1⟩
 obtain ⟨hl1,hl2⟩:=xdp hG
 have hsl:Hid (∀ W,Below w.heap.size w W → MsgSl W m a1 c1 a2 c2 a3 c3):=fun W h=>sm.later h
 have sl:=hsl
 clear hsl
 replace hG:Hid _:=hG
 replace hi:Hid _:=hi
 clear hfit hF0
 obtain ⟨kk,hkE⟩:∃ k,m.kind = k:=⟨_,rfl⟩
 rw [hkE] at hkk
 replace hkE:Hid _:=hkE
 replace hkk:Hid _:=hkk
 go_enter Tryz.func12,Tryz.ntmps12
 go_wp2_with (first
  | (refine xab (by rfl) 48 _ rfl w.heap.size rfl 48 (msgC m a1 c1 a2 c2 a3 c3) _ Tryz.underlying48 rfl (xah m a1 a2 a3 c1 c2 c3) ?hg ?_;(case hg=>exact hX))
  | fail)
 refine (xfp m a1 a2 a3 c1 c2 c3 _ hm (sm.later hb)).mono ?_
 rintro en w2 ⟨rfl,hq⟩
 rw [hi.out]
 replace hX:=hX.later hq
 replace hb:=hb.trans (hq.mono hb.size)
 clear hq hw1 sm
 have y0:=hX.mc_kind
 have y1:=hX.mc_src
 have y2:=hX.mc_dst
 have hv3:=own_b3 w2 w.heap.size m.kind m.src m.dst hm.kind hm.src hm.dst hb.size
 have hq3:Below w2.heap.size w2 (w2.alloc (.cells #[.int .u8 (m.kind:Int),.int .u8 (m.src:Int),.int .u8 (m.dst:Int)] 5)):=(Below.refl _ _).alloc (Nat.le_refl _) _
 have y3:=(hX.later hq3).mc_epoch
 go_wp2_with fail
 refine (xcs w.heap.size _ _ m.epoch _ hv3 hm.epoch (by simp [xal])).mono ?_
 rintro en w4x ⟨v4,rfl,hv4,ow4⟩
 have oB:OffB w.heap.size w w4x:=(OffB.of (hb.trans (hq3.mono hb.size)) (Nat.le_refl _)).trans ow4
 replace hX:=ow4.keep _ _ _ (hX.later hq3) xbk
 clear y0 y1 y2 y3 hv3 hq3 ow4 hb
 have x0:=hX.mc_kind
 rw [hkE.out] at x0
 have n1:True:=trivial
 rcases hkk.out with rfl | rfl
 ·replace hkE:=hkE.out
  clear hkk n1
  have gI:IncG m.inc:=hG.out.inc (by rw [hkE];rfl)
  obtain ⟨bn,hbn,hfl,hbc⟩:=bit_ex m.has
  have hB:Hid (msgB m = putB m.kind 1 ++ (putB m.src 1 ++ (putB m.dst 1 ++ (putB m.epoch 4 ++ (balB m.b ++ (balB m.acc ++ (flagB m.has ++ incB m.inc))))))):=by show _ = _;unfold msgB;rw [hkE];simp [shapeM,ifB]
  go_wp2_with fail
  refine xas (fun W=>Has W w.heap.size 48 (msgC m a1 c1 a2 c2 a3 c3)) (Plan.of [(0,true),(1,true),(2,true),(4,true),(5,true),(7,true),(8,true),(11,true),(12,true),(3,false),(6,false),(9,false),(10,false),(13,false),(14,true)] .done) (by kernel_rfl) (by kernel_rfl) (by kernel_rfl) (by kernel_rfl) hX.drew ?_
  replace hX:=hX.drew
  replace hv4:=hv4.drew
  replace oB:OffB w.heap.size w _:=oB.trans (OffB.of (Below.refl _ _).drew hv4.2.1)
  generalize w4x.drew = w4 at *
  iterate 2
   first
    | (refine xad _ rfl (by rfl) ?_)
    | (refine xaa _ _ rfl (.inl ⟨by rfl,fun W hS=>by clear hS;go_simp;try with_reducible rfl⟩) ?_)
   try simp only [qp,qa,qb,qc]
  refine xaa _ (.agg (balC m.b)) rfl (xaj (by rfl) 24 _ rfl w.heap.size 4 rfl ((balC m.b).toList) _ Tryz.underlying24 rfl (xbx m.b) (fun W hS=>hS.m_b)) ?_
  try simp only [qp,qa,qb,qc]
  iterate 1
   first
    | (refine xad _ rfl (by rfl) ?_)
    | (refine xaa _ _ rfl (.inl ⟨by rfl,fun W hS=>by clear hS;go_simp;try with_reducible rfl⟩) ?_)
   try simp only [qp,qa,qb,qc]
  refine xaa _ (.agg (balC m.acc)) rfl (xaj (by rfl) 24 _ rfl w.heap.size 6 rfl ((balC m.acc).toList) _ Tryz.underlying24 rfl (xbx m.acc) (fun W hS=>hS.m_acc)) ?_
  try simp only [qp,qa,qb,qc]
  iterate 1
   first
    | (refine xad _ rfl (by rfl) ?_)
    | (refine xaa _ _ rfl (.inl ⟨by rfl,fun W hS=>by clear hS;go_simp;try with_reducible rfl⟩) ?_)
   try simp only [qp,qa,qb,qc]
  iterate 1
   first
    | (refine xad _ rfl (by rfl) ?_)
    | (refine xaa _ _ rfl (.inl ⟨by rfl,fun W hS=>by have z:=hS.mc_has;go_simp;try with_reducible rfl⟩) ?_)
   try simp only [qp,qa,qb,qc]
  iterate 1
   first
    | (refine xad _ rfl (by rfl) ?_)
    | (refine xaa _ _ rfl (.inl ⟨by rfl,fun W hS=>by clear hS;go_simp;try with_reducible rfl⟩) ?_)
   try simp only [qp,qa,qb,qc]
  refine xaa _ (.agg (incC m.inc)) rfl (xaj (by rfl) 26 _ rfl w.heap.size 9 rfl ((incC m.inc).toList) _ Tryz.underlying26 rfl (ws_inc m.inc) (fun W hS=>hS.m_inc)) ?_
  try simp only [qp,qa,qb,qc]
  refine xam _ rfl (fun K hK=>?_)
  go_simp
  refine (rbal_any w.heap.size v4 _ m.b w4 hv4 hm.b (by simp [xal,xdc];try omega)).mono ?_
  rintro en w5 ⟨v5,rfl,hv5,ow5⟩
  refine hK.out _ _ (ow5.keep _ _ _ hX xbk) ?_
  clear hK K
  try simp only [qp,qa,qb,qc]
  replace hX:=ow5.keep _ _ _ hX xbk
  replace oB:=oB.trans ow5
  refine xam _ rfl (fun K hK=>?_)
  go_simp
  refine (rbal_any w.heap.size v5 _ m.acc w5 hv5 hm.acc (by simp [xal,xdc];try omega)).mono ?_
  rintro en w6 ⟨v6,rfl,hv6,ow6⟩
  refine hK.out _ _ (ow6.keep _ _ _ hX xbk) ?_
  clear hK K
  try simp only [qp,qa,qb,qc]
  replace hX:=ow6.keep _ _ _ hX xbk
  replace oB:=oB.trans ow6
  refine xam _ rfl (fun K hK=>?_)
  go_simp
  refine (hbc w6).mono ?_
  rintro en w6x ⟨rfl,rfl⟩
  refine hK.out _ _ hX ?_
  clear hK K
  try simp only [qp,qa,qb,qc]
  refine xam _ rfl (fun K hK=>?_)
  go_simp
  refine (xcw w.heap.size v6 _ bn w6x hv6 hbn (by simp [xal,xdc];try omega)).mono ?_
  rintro en w7 ⟨v7,rfl,hv7,ow7⟩
  refine hK.out _ _ (ow7.keep _ _ _ hX xbk) ?_
  clear hK K
  try simp only [qp,qa,qb,qc]
  replace hX:=ow7.keep _ _ _ hX xbk
  replace oB:=oB.trans ow7
  refine xam _ rfl (fun K hK=>?_)
  go_simp
  refine (rinc_any w.heap.size v7 _ m.inc w7 hv7 gI (by simp [xal,xdc,xfo];try omega)).mono ?_
  rintro en w8 ⟨v8,rfl,hv8,ow8⟩
  refine hK.out _ _ (ow8.keep _ _ _ hX xbk) ?_
  clear hK K
  try simp only [qp,qa,qb,qc]
  replace hX:=ow8.keep _ _ _ hX xbk
  replace oB:=oB.trans ow8
  iterate 1
   first
    | (refine xad _ rfl (by rfl) ?_)
    | (refine xaa _ _ rfl (.inl ⟨by rfl,fun W hS=>by clear hS;go_simp;try with_reducible rfl⟩) ?_)
   try simp only [qp,qa,qb,qc]
  refine xbf ?_
  have hvF:OwnV w8 w.heap.size v8 (msgB m):=by
   have q:=hv8
   rw [hB.out]
   simpa only [List.append_assoc,hfl] using q
  obtain ⟨vF,hvf⟩:∃ V,v8 = V:=⟨_,rfl⟩
  have oF:Hid (OffB w.heap.size w w8):=oB
  clear oB hX hB hv4 hv5 hv6 hv7 hv8
  subst hvf
  obtain ⟨g1,k1,rfl,-,hk1⟩:=xbw hvF.1 (by omega)
  have hBy1:=By.own hvF.1 hk1
  go_wp2_with fail
  refine (xdl _ _ _ _ w8 hBy1 rfl).mono ?_
  rintro en ws ⟨rfl,rfl⟩
  go_wp2_with fail
  refine (rputS w.heap.size _ (msgB m) (sumN (msgB m)) 8 _ hvF (xdi _) (by decide) (by decide) (by omega)).mono ?_
  rintro en wf ⟨vf,rfl,hvf,owf⟩
  replace oF:=oF.out.trans owf
  have hsum:msgB m ++ putB (sumN (msgB m)) 8 = sumB (msgB m):=rfl
  rw [hsum] at hvf
  have hlen:=xbz (msgB m)
  obtain ⟨g2,k2,rfl,-,hk2⟩:=xbw hvf.1 (by omega)
  have hBy2:=By.own hvf.1 hk2
  have hnot:¬ (2000:Int) < ((sumB (msgB m)).length:Int):=by omega
  have hfin:Hid (∃ g c,(Ending.returned (.tuple #[.slice (some ⟨g2,0,none⟩) (sumB (msgB m)).length k2,.int .i64 0]):Ending) = .returned (.tuple #[.slice (some ⟨g,0,none⟩) (sumB (msgB m)).length c,.int .i64 0]) ∧ wf.ownsRow w.heap.size 5 1 (.slice (some ⟨g,0,none⟩) (sumB (msgB m)).length c) (sumB (msgB m)).length (Bs (sumB (msgB m))) ∧ By wf (some ⟨g,0,none⟩) c (sumB (msgB m)) ∧ Below w.heap.size w wf):=⟨g2,k2,rfl,hvf.1,hBy2,oF.below⟩
  clear hvf hBy2 oF hBy1 hvF hsum hlen owf
  go_wp2
  go_ret2
  exact hfin.out
 ·replace hkE:=hkE.out
  clear hkk n1
  have gI:IncG m.inc:=hG.out.inc (by rw [hkE];rfl)
  have hB:Hid (msgB m = putB m.kind 1 ++ (putB m.src 1 ++ (putB m.dst 1 ++ (putB m.epoch 4 ++ (balB m.b ++ incB m.inc))))):=by show _ = _;unfold msgB;rw [hkE];simp [shapeM,ifB]
  go_wp2_with fail
  refine xas (fun W=>Has W w.heap.size 48 (msgC m a1 c1 a2 c2 a3 c3)) (Plan.of [(0,true),(1,true),(2,true),(4,true),(5,true),(3,false),(6,false),(7,true)] .done) (by kernel_rfl) (by kernel_rfl) (by kernel_rfl) (by kernel_rfl) hX.drew ?_
  replace hX:=hX.drew
  replace hv4:=hv4.drew
  replace oB:OffB w.heap.size w _:=oB.trans (OffB.of (Below.refl _ _).drew hv4.2.1)
  generalize w4x.drew = w4 at *
  iterate 2
   first
    | (refine xad _ rfl (by rfl) ?_)
    | (refine xaa _ _ rfl (.inl ⟨by rfl,fun W hS=>by clear hS;go_simp;try with_reducible rfl⟩) ?_)
   try simp only [qp,qa,qb,qc]
  refine xaa _ (.agg (balC m.b)) rfl (xaj (by rfl) 24 _ rfl w.heap.size 4 rfl ((balC m.b).toList) _ Tryz.underlying24 rfl (xbx m.b) (fun W hS=>hS.m_b)) ?_
  try simp only [qp,qa,qb,qc]
  iterate 1
   first
    | (refine xad _ rfl (by rfl) ?_)
    | (refine xaa _ _ rfl (.inl ⟨by rfl,fun W hS=>by clear hS;go_simp;try with_reducible rfl⟩) ?_)
   try simp only [qp,qa,qb,qc]
  refine xaa _ (.agg (incC m.inc)) rfl (xaj (by rfl) 26 _ rfl w.heap.size 9 rfl ((incC m.inc).toList) _ Tryz.underlying26 rfl (ws_inc m.inc) (fun W hS=>hS.m_inc)) ?_
  try simp only [qp,qa,qb,qc]
  refine xam _ rfl (fun K hK=>?_)
  go_simp
  refine (rbal_any w.heap.size v4 _ m.b w4 hv4 hm.b (by simp [xal,xdc];try omega)).mono ?_
  rintro en w5 ⟨v5,rfl,hv5,ow5⟩
  refine hK.out _ _ (ow5.keep _ _ _ hX xbk) ?_
  clear hK K
  try simp only [qp,qa,qb,qc]
  replace hX:=ow5.keep _ _ _ hX xbk
  replace oB:=oB.trans ow5
  refine xam _ rfl (fun K hK=>?_)
  go_simp
  refine (rinc_any w.heap.size v5 _ m.inc w5 hv5 gI (by simp [xal,xdc,xfo];try omega)).mono ?_
  rintro en w6 ⟨v6,rfl,hv6,ow6⟩
  refine hK.out _ _ (ow6.keep _ _ _ hX xbk) ?_
  clear hK K
  try simp only [qp,qa,qb,qc]
  replace hX:=ow6.keep _ _ _ hX xbk
  replace oB:=oB.trans ow6
  iterate 1
   first
    | (refine xad _ rfl (by rfl) ?_)
    | (refine xaa _ _ rfl (.inl ⟨by rfl,fun W hS=>by clear hS;go_simp;try with_reducible rfl⟩) ?_)
   try simp only [qp,qa,qb,qc]
  refine xbf ?_
  have hvF:OwnV w6 w.heap.size v6 (msgB m):=by
   have q:=hv6
   rw [hB.out]
   simpa only [List.append_assoc] using q
  obtain ⟨vF,hvf⟩:∃ V,v6 = V:=⟨_,rfl⟩
  have oF:Hid (OffB w.heap.size w w6):=oB
  clear oB hX hB hv4 hv5 hv6
  subst hvf
  obtain ⟨g1,k1,rfl,-,hk1⟩:=xbw hvF.1 (by omega)
  have hBy1:=By.own hvF.1 hk1
  go_wp2_with fail
  refine (xdl _ _ _ _ w6 hBy1 rfl).mono ?_
  rintro en ws ⟨rfl,rfl⟩
  go_wp2_with fail
  refine (rputS w.heap.size _ (msgB m) (sumN (msgB m)) 8 _ hvF (xdi _) (by decide) (by decide) (by omega)).mono ?_
  rintro en wf ⟨vf,rfl,hvf,owf⟩
  replace oF:=oF.out.trans owf
  have hsum:msgB m ++ putB (sumN (msgB m)) 8 = sumB (msgB m):=rfl
  rw [hsum] at hvf
  have hlen:=xbz (msgB m)
  obtain ⟨g2,k2,rfl,-,hk2⟩:=xbw hvf.1 (by omega)
  have hBy2:=By.own hvf.1 hk2
  have hnot:¬ (2000:Int) < ((sumB (msgB m)).length:Int):=by omega
  have hfin:Hid (∃ g c,(Ending.returned (.tuple #[.slice (some ⟨g2,0,none⟩) (sumB (msgB m)).length k2,.int .i64 0]):Ending) = .returned (.tuple #[.slice (some ⟨g,0,none⟩) (sumB (msgB m)).length c,.int .i64 0]) ∧ wf.ownsRow w.heap.size 5 1 (.slice (some ⟨g,0,none⟩) (sumB (msgB m)).length c) (sumB (msgB m)).length (Bs (sumB (msgB m))) ∧ By wf (some ⟨g,0,none⟩) c (sumB (msgB m)) ∧ Below w.heap.size w wf):=⟨g2,k2,rfl,hvf.1,hBy2,oF.below⟩
  clear hvf hBy2 oF hBy1 hvF hsum hlen owf
  go_wp2
  go_ret2
  exact hfin.out

set_option maxHeartbeats 40000000 in
theorem denc_C (m:MsgV) (a1 a2 a3:Option Addr) (c1 c2 c3:Nat) (w:World) (hm:MsgOk m) (hkk:m.kind = 5 ∨ m.kind = 6 ∨ m.kind = 7 ∨ m.kind = 17) (sm:MsgSl w m a1 c1 a2 c2 a3 c3) (hi:isMsg m = true):Calls Tryz.prog 12 #[.agg (msgC m a1 c1 a2 c2 a3 c3)] w (EncR w m):=by
 obtain ⟨w1,hw1,hX,hb⟩:=xbr w 48 (msgC m a1 c1 a2 c2 a3 c3)
 have hG:=xhi hm hi
 obtain ⟨_,hfit,_⟩:=xch.1 hi
 have hF0:=xhl _ _ hfit
 have hF:Hid (((shapeM m.kind).st = true → isSt m.st = true) ∧ ((shapeM m.kind).dif = true → xcq m.diff = true)):=⟨hF0.1,hF0.2.1⟩
 obtain ⟨hl1,hl2⟩:=xdp hG
 have hsl:Hid (∀ W,Below w.heap.size w W → MsgSl W m a1 c1 a2 c2 a3 c3):=fun W h=>sm.later h
 have sl:=hsl
 clear hsl
 replace hG:Hid _:=hG
 replace hi:Hid _:=hi
 clear hfit hF0
 obtain ⟨kk,hkE⟩:∃ k,m.kind = k:=⟨_,rfl⟩
 rw [hkE] at hkk
 replace hkE:Hid _:=hkE
 replace hkk:Hid _:=hkk
 go_enter Tryz.func12,Tryz.ntmps12
 go_wp2_with (first
  | (refine xab (by rfl) 48 _ rfl w.heap.size rfl 48 (msgC m a1 c1 a2 c2 a3 c3) _ Tryz.underlying48 rfl (xah m a1 a2 a3 c1 c2 c3) ?hg ?_;(case hg=>exact hX))
  | fail)
 refine (xfp m a1 a2 a3 c1 c2 c3 _ hm (sm.later hb)).mono ?_
 rintro en w2 ⟨rfl,hq⟩
 rw [hi.out]
 replace hX:=hX.later hq
 replace hb:=hb.trans (hq.mono hb.size)
 clear hq hw1 sm
 have y0:=hX.mc_kind
 have y1:=hX.mc_src
 have y2:=hX.mc_dst
 have hv3:=own_b3 w2 w.heap.size m.kind m.src m.dst hm.kind hm.src hm.dst hb.size
 have hq3:Below w2.heap.size w2 (w2.alloc (.cells #[.int .u8 (m.kind:Int),.int .u8 (m.src:Int),.int .u8 (m.dst:Int)] 5)):=(Below.refl _ _).alloc (Nat.le_refl _) _
 have y3:=(hX.later hq3).mc_epoch
 go_wp2_with fail
 refine (xcs w.heap.size _ _ m.epoch _ hv3 hm.epoch (by simp [xal])).mono ?_
 rintro en w4x ⟨v4,rfl,hv4,ow4⟩
 have oB:OffB w.heap.size w w4x:=(OffB.of (hb.trans (hq3.mono hb.size)) (Nat.le_refl _)).trans ow4
 replace hX:=ow4.keep _ _ _ (hX.later hq3) xbk
 clear y0 y1 y2 y3 hv3 hq3 ow4 hb
 have x0:=hX.mc_kind
 rw [hkE.out] at x0
 have n1:True:=trivial
 rcases hkk.out with rfl | rfl | rfl | rfl
 ·obtain ⟨w4,hw4⟩:∃ W,W = w4x:=⟨_,rfl⟩
  subst hw4
  replace hkE:=hkE.out
  clear hkk n1
  have gI:IncG m.inc:=hG.out.inc (by rw [hkE];rfl)
  have hB:Hid (msgB m = putB m.kind 1 ++ (putB m.src 1 ++ (putB m.dst 1 ++ (putB m.epoch 4 ++ incB m.inc)))):=by show _ = _;unfold msgB;rw [hkE];simp [shapeM,ifB]
  go_wp2_with (first
   | (refine xae (by rfl) 26 _ rfl w.heap.size 9 rfl ((incC m.inc).toList) _ ?hc Tryz.underlying26 rfl (ws_inc m.inc) ?_;(case hc=>exact hX.m_inc))
   | fail)
  refine (rinc_any w.heap.size v4 _ m.inc w4 hv4 gI (by simp [xal,xdc,xfo];try omega)).mono ?_
  rintro en w5 ⟨v5,rfl,hv5,ow5⟩
  replace oB:=oB.trans ow5
  have hvF:OwnV w5 w.heap.size v5 (msgB m):=by
   have q:=hv5
   rw [hB.out]
   simpa only [List.append_assoc] using q
  obtain ⟨vF,hvf⟩:∃ V,v5 = V:=⟨_,rfl⟩
  have oF:Hid (OffB w.heap.size w w5):=oB
  clear oB hX hB hv4 hv5
  subst hvf
  obtain ⟨g1,k1,rfl,-,hk1⟩:=xbw hvF.1 (by omega)
  have hBy1:=By.own hvF.1 hk1
  go_wp2_with fail
  refine (xdl _ _ _ _ w5 hBy1 rfl).mono ?_
  rintro en ws ⟨rfl,rfl⟩
  go_wp2_with fail
  refine (rputS w.heap.size _ (msgB m) (sumN (msgB m)) 8 _ hvF (xdi _) (by decide) (by decide) (by omega)).mono ?_
  rintro en wf ⟨vf,rfl,hvf,owf⟩
  replace oF:=oF.out.trans owf
  have hsum:msgB m ++ putB (sumN (msgB m)) 8 = sumB (msgB m):=rfl
  rw [hsum] at hvf
  have hlen:=xbz (msgB m)
  obtain ⟨g2,k2,rfl,-,hk2⟩:=xbw hvf.1 (by omega)
  have hBy2:=By.own hvf.1 hk2
  have hnot:¬ (2000:Int) < ((sumB (msgB m)).length:Int):=by omega
  have hfin:Hid (∃ g c,(Ending.returned (.tuple #[.slice (some ⟨g2,0,none⟩) (sumB (msgB m)).length k2,.int .i64 0]):Ending) = .returned (.tuple #[.slice (some ⟨g,0,none⟩) (sumB (msgB m)).length c,.int .i64 0]) ∧ wf.ownsRow w.heap.size 5 1 (.slice (some ⟨g,0,none⟩) (sumB (msgB m)).length c) (sumB (msgB m)).length (Bs (sumB (msgB m))) ∧ By wf (some ⟨g,0,none⟩) c (sumB (msgB m)) ∧ Below w.heap.size w wf):=⟨g2,k2,rfl,hvf.1,hBy2,oF.below⟩
  clear hvf hBy2 oF hBy1 hvF hsum hlen owf
  go_wp2
  go_ret2
  exact hfin.out
 ·obtain ⟨w4,hw4⟩:∃ W,W = w4x:=⟨_,rfl⟩
  subst hw4
  replace hkE:=hkE.out
  clear hkk n1
  have hB:Hid (msgB m = putB m.kind 1 ++ (putB m.src 1 ++ (putB m.dst 1 ++ putB m.epoch 4))):=by show _ = _;unfold msgB;rw [hkE];simp [shapeM,ifB]
  have hvF:OwnV w4 w.heap.size v4 (msgB m):=by
   have q:=hv4
   rw [hB.out]
   simpa only [List.append_assoc] using q
  obtain ⟨vF,hvf⟩:∃ V,v4 = V:=⟨_,rfl⟩
  have oF:Hid (OffB w.heap.size w w4):=oB
  clear oB hX hB hv4
  subst hvf
  obtain ⟨g1,k1,rfl,-,hk1⟩:=xbw hvF.1 (by omega)
  have hBy1:=By.own hvF.1 hk1
  go_wp2_with fail
  refine (xdl _ _ _ _ w4 hBy1 rfl).mono ?_
  rintro en ws ⟨rfl,rfl⟩
  go_wp2_with fail
  refine (rputS w.heap.size _ (msgB m) (sumN (msgB m)) 8 _ hvF (xdi _) (by decide) (by decide) (by omega)).mono ?_
  rintro en wf ⟨vf,rfl,hvf,owf⟩
  replace oF:=oF.out.trans owf
  have hsum:msgB m ++ putB (sumN (msgB m)) 8 = sumB (msgB m):=rfl
  rw [hsum] at hvf
  have hlen:=xbz (msgB m)
  obtain ⟨g2,k2,rfl,-,hk2⟩:=xbw hvf.1 (by omega)
  have hBy2:=By.own hvf.1 hk2
  have hnot:¬ (2000:Int) < ((sumB (msgB m)).length:Int):=by omega
  have hfin:Hid (∃ g c,(Ending.returned (.tuple #[.slice (some ⟨g2,0,none⟩) (sumB (msgB m)).length k2,.int .i64 0]):Ending) = .returned (.tuple #[.slice (some ⟨g,0,none⟩) (sumB (msgB m)).length c,.int .i64 0]) ∧ wf.ownsRow w.heap.size 5 1 (.slice (some ⟨g,0,none⟩) (sumB (msgB m)).length c) (sumB (msgB m)).length (Bs (sumB (msgB m))) ∧ By wf (some ⟨g,0,none⟩) c (sumB (msgB m)) ∧ Below w.heap.size w wf):=⟨g2,k2,rfl,hvf.1,hBy2,oF.below⟩
  clear hvf hBy2 oF hBy1 hvF hsum hlen owf
  go_wp2
  go_ret2
  exact hfin.out
 ·obtain ⟨w4,hw4⟩:∃ W,W = w4x:=⟨_,rfl⟩
  subst hw4
  replace hkE:=hkE.out
  clear hkk n1
  have hB:Hid (msgB m = putB m.kind 1 ++ (putB m.src 1 ++ (putB m.dst 1 ++ (putB m.epoch 4 ++ putB m.group 1)))):=by show _ = _;unfold msgB;rw [hkE];simp [shapeM,ifB]
  have yy:=hX.mc_group
  go_wp2_with fail
  refine (xcw w.heap.size v4 _ m.group w4 hv4 hm.group (by simp [xal];try omega)).mono ?_
  rintro en w5 ⟨v5,rfl,hv5,ow5⟩
  replace oB:=oB.trans ow5
  have hvF:OwnV w5 w.heap.size v5 (msgB m):=by
   have q:=hv5
   rw [hB.out]
   simpa only [List.append_assoc] using q
  obtain ⟨vF,hvf⟩:∃ V,v5 = V:=⟨_,rfl⟩
  have oF:Hid (OffB w.heap.size w w5):=oB
  clear oB hX hB hv4 hv5
  subst hvf
  obtain ⟨g1,k1,rfl,-,hk1⟩:=xbw hvF.1 (by omega)
  have hBy1:=By.own hvF.1 hk1
  go_wp2_with fail
  refine (xdl _ _ _ _ w5 hBy1 rfl).mono ?_
  rintro en ws ⟨rfl,rfl⟩
  go_wp2_with fail
  refine (rputS w.heap.size _ (msgB m) (sumN (msgB m)) 8 _ hvF (xdi _) (by decide) (by decide) (by omega)).mono ?_
  rintro en wf ⟨vf,rfl,hvf,owf⟩
  replace oF:=oF.out.trans owf
  have hsum:msgB m ++ putB (sumN (msgB m)) 8 = sumB (msgB m):=rfl
  rw [hsum] at hvf
  have hlen:=xbz (msgB m)
  obtain ⟨g2,k2,rfl,-,hk2⟩:=xbw hvf.1 (by omega)
  have hBy2:=By.own hvf.1 hk2
  have hnot:¬ (2000:Int) < ((sumB (msgB m)).length:Int):=by omega
  have hfin:Hid (∃ g c,(Ending.returned (.tuple #[.slice (some ⟨g2,0,none⟩) (sumB (msgB m)).length k2,.int .i64 0]):Ending) = .returned (.tuple #[.slice (some ⟨g,0,none⟩) (sumB (msgB m)).length c,.int .i64 0]) ∧ wf.ownsRow w.heap.size 5 1 (.slice (some ⟨g,0,none⟩) (sumB (msgB m)).length c) (sumB (msgB m)).length (Bs (sumB (msgB m))) ∧ By wf (some ⟨g,0,none⟩) c (sumB (msgB m)) ∧ Below w.heap.size w wf):=⟨g2,k2,rfl,hvf.1,hBy2,oF.below⟩
  clear hvf hBy2 oF hBy1 hvF hsum hlen owf
  go_wp2
  go_ret2
  exact hfin.out
 ·obtain ⟨w4,hw4⟩:∃ W,W = w4x:=⟨_,rfl⟩
  subst hw4
  replace hkE:=hkE.out
  clear hkk n1
  have hB:Hid (msgB m = putB m.kind 1 ++ (putB m.src 1 ++ (putB m.dst 1 ++ (putB m.epoch 4 ++ putB m.n 4)))):=by show _ = _;unfold msgB;rw [hkE];simp [shapeM,ifB]
  have yy:=hX.mc_n
  go_wp2_with fail
  refine (xcs w.heap.size v4 _ m.n w4 hv4 hm.n (by simp [xal];try omega)).mono ?_
  rintro en w5 ⟨v5,rfl,hv5,ow5⟩
  replace oB:=oB.trans ow5
  have hvF:OwnV w5 w.heap.size v5 (msgB m):=by
   have q:=hv5
   rw [hB.out]
   simpa only [List.append_assoc] using q
  obtain ⟨vF,hvf⟩:∃ V,v5 = V:=⟨_,rfl⟩
  have oF:Hid (OffB w.heap.size w w5):=oB
  clear oB hX hB hv4 hv5
  subst hvf
  obtain ⟨g1,k1,rfl,-,hk1⟩:=xbw hvF.1 (by omega)
  have hBy1:=By.own hvF.1 hk1
  go_wp2_with fail
  refine (xdl _ _ _ _ w5 hBy1 rfl).mono ?_
  rintro en ws ⟨rfl,rfl⟩
  go_wp2_with fail
  refine (rputS w.heap.size _ (msgB m) (sumN (msgB m)) 8 _ hvF (xdi _) (by decide) (by decide) (by omega)).mono ?_
  rintro en wf ⟨vf,rfl,hvf,owf⟩
  replace oF:=oF.out.trans owf
  have hsum:msgB m ++ putB (sumN (msgB m)) 8 = sumB (msgB m):=rfl
  rw [hsum] at hvf
  have hlen:=xbz (msgB m)
  obtain ⟨g2,k2,rfl,-,hk2⟩:=xbw hvf.1 (by omega)
  have hBy2:=By.own hvf.1 hk2
  have hnot:¬ (2000:Int) < ((sumB (msgB m)).length:Int):=by omega
  have hfin:Hid (∃ g c,(Ending.returned (.tuple #[.slice (some ⟨g2,0,none⟩) (sumB (msgB m)).length k2,.int .i64 0]):Ending) = .returned (.tuple #[.slice (some ⟨g,0,none⟩) (sumB (msgB m)).length c,.int .i64 0]) ∧ wf.ownsRow w.heap.size 5 1 (.slice (some ⟨g,0,none⟩) (sumB (msgB m)).length c) (sumB (msgB m)).length (Bs (sumB (msgB m))) ∧ By wf (some ⟨g,0,none⟩) c (sumB (msgB m)) ∧ Below w.heap.size w wf):=⟨g2,k2,rfl,hvf.1,hBy2,oF.below⟩
  clear hvf hBy2 oF hBy1 hvF hsum hlen owf
  go_wp2
  go_ret2
  exact hfin.out

set_option maxHeartbeats 40000000 in
theorem denc_D (m:MsgV) (a1 a2 a3:Option Addr) (c1 c2 c3:Nat) (w:World) (hm:MsgOk m) (hkk:m.kind = 8 ∨ m.kind = 9) (sm:MsgSl w m a1 c1 a2 c2 a3 c3) (hi:isMsg m = true):Calls Tryz.prog 12 #[.agg (msgC m a1 c1 a2 c2 a3 c3)] w (EncR w m):=by
 obtain ⟨w1,hw1,hX,hb⟩:=xbr w 48 (msgC m a1 c1 a2 c2 a3 c3)
 have hG:=xhi hm hi
 obtain ⟨_,hfit,_⟩:=xch.1 hi
 have hF0:=xhl _ _ hfit
 have hF:Hid (((shapeM m.kind).st = true → isSt m.st = true) ∧ ((shapeM m.kind).dif = true → xcq m.diff = true)):=⟨hF0.1,hF0.2.1⟩
 obtain ⟨hl1,hl2⟩:=xdp hG
 have hsl:Hid (∀ W,Below w.heap.size w W → MsgSl W m a1 c1 a2 c2 a3 c3):=fun W h=>sm.later h
 have sl:=hsl
 clear hsl
 replace hG:Hid _:=hG
 replace hi:Hid _:=hi
 clear hfit hF0
 obtain ⟨kk,hkE⟩:∃ k,m.kind = k:=⟨_,rfl⟩
 rw [hkE] at hkk
 replace hkE:Hid _:=hkE
 replace hkk:Hid _:=hkk
 go_enter Tryz.func12,Tryz.ntmps12
 go_wp2_with (first
  | (refine xab (by rfl) 48 _ rfl w.heap.size rfl 48 (msgC m a1 c1 a2 c2 a3 c3) _ Tryz.underlying48 rfl (xah m a1 a2 a3 c1 c2 c3) ?hg ?_;(case hg=>exact hX))
  | fail)
 refine (xfp m a1 a2 a3 c1 c2 c3 _ hm (sm.later hb)).mono ?_
 rintro en w2 ⟨rfl,hq⟩
 rw [hi.out]
 replace hX:=hX.later hq
 replace hb:=hb.trans (hq.mono hb.size)
 clear hq hw1 sm
 have y0:=hX.mc_kind
 have y1:=hX.mc_src
 have y2:=hX.mc_dst
 have hv3:=own_b3 w2 w.heap.size m.kind m.src m.dst hm.kind hm.src hm.dst hb.size
 have hq3:Below w2.heap.size w2 (w2.alloc (.cells #[.int .u8 (m.kind:Int),.int .u8 (m.src:Int),.int .u8 (m.dst:Int)] 5)):=(Below.refl _ _).alloc (Nat.le_refl _) _
 have y3:=(hX.later hq3).mc_epoch
 go_wp2_with fail
 refine (xcs w.heap.size _ _ m.epoch _ hv3 hm.epoch (by simp [xal])).mono ?_
 rintro en w4x ⟨v4,rfl,hv4,ow4⟩
 have oB:OffB w.heap.size w w4x:=(OffB.of (hb.trans (hq3.mono hb.size)) (Nat.le_refl _)).trans ow4
 replace hX:=ow4.keep _ _ _ (hX.later hq3) xbk
 clear y0 y1 y2 y3 hv3 hq3 ow4 hb
 have x0:=hX.mc_kind
 rw [hkE.out] at x0
 have n1:True:=trivial
 rcases hkk.out with rfl | rfl
 ·replace hkE:=hkE.out
  clear hkk n1
  have gS:StG m.st:=hG.out.st (by rw [hkE];rfl)
  have iS:isSt m.st = true:=hF.out.1 (by rw [hkE];rfl)
  have hB:Hid (msgB m = putB m.kind 1 ++ (putB m.src 1 ++ (putB m.dst 1 ++ (putB m.epoch 4 ++ (putB m.group 1 ++ statB m.st))))):=by show _ = _;unfold msgB;rw [hkE];simp [shapeM,ifB]
  go_wp2_with fail
  refine xas (fun W=>Has W w.heap.size 48 (msgC m a1 c1 a2 c2 a3 c3)) (Plan.of [(0,true),(1,true),(2,true),(4,true),(5,true),(3,false),(6,false),(7,true)] .done) (by kernel_rfl) (by kernel_rfl) (by kernel_rfl) (by kernel_rfl) hX.drew ?_
  replace hX:=hX.drew
  replace hv4:=hv4.drew
  replace oB:OffB w.heap.size w _:=oB.trans (OffB.of (Below.refl _ _).drew hv4.2.1)
  generalize w4x.drew = w4 at *
  iterate 2
   first
    | (refine xad _ rfl (by rfl) ?_)
    | (refine xaa _ _ rfl (.inl ⟨by rfl,fun W hS=>by clear hS;go_simp;try with_reducible rfl⟩) ?_)
   try simp only [qp,qa,qb,qc]
  iterate 1
   first
    | (refine xad _ rfl (by rfl) ?_)
    | (refine xaa _ _ rfl (.inl ⟨by rfl,fun W hS=>by have z:=hS.mc_group;go_simp;try with_reducible rfl⟩) ?_)
   try simp only [qp,qa,qb,qc]
  iterate 1
   first
    | (refine xad _ rfl (by rfl) ?_)
    | (refine xaa _ _ rfl (.inl ⟨by rfl,fun W hS=>by clear hS;go_simp;try with_reducible rfl⟩) ?_)
   try simp only [qp,qa,qb,qc]
  refine xaa _ (.agg (stC m.st a1 c1)) rfl (xaj (by rfl) 44 _ rfl w.heap.size 13 rfl (stL m.st a1 c1) _ Tryz.underlying44 rfl (xcg m.st a1 c1) (fun W hS=>hS.m_st)) ?_
  try simp only [qp,qa,qb,qc]
  refine xam _ rfl (fun K hK=>?_)
  go_simp
  refine (xcw w.heap.size v4 _ m.group w4 hv4 hm.group (by simp [xal];try omega)).mono ?_
  rintro en w5 ⟨v5,rfl,hv5,ow5⟩
  refine hK.out _ _ (ow5.keep _ _ _ hX xbk) ?_
  clear hK K
  try simp only [qp,qa,qb,qc]
  replace hX:=ow5.keep _ _ _ hX xbk
  replace oB:=oB.trans ow5
  refine xam _ rfl (fun K hK=>?_)
  go_simp
  refine (rputst_any w.heap.size v5 _ m.st a1 c1 w5 hv5 (fun W hW=>(sl.out _ (oB.trans hW).below).st) gS.ok (by simp [xal];try omega)).mono ?_
  rintro en w6 ⟨v6,rfl,hv6,ow6⟩
  refine hK.out _ _ (ow6.keep _ _ _ hX xbk) ?_
  clear hK K
  try simp only [qp,qa,qb,qc]
  replace hX:=ow6.keep _ _ _ hX xbk
  replace oB:=oB.trans ow6
  iterate 1
   first
    | (refine xad _ rfl (by rfl) ?_)
    | (refine xaa _ _ rfl (.inl ⟨by rfl,fun W hS=>by clear hS;go_simp;try with_reducible rfl⟩) ?_)
   try simp only [qp,qa,qb,qc]
  refine xbf ?_
  rw [if_pos iS] at hv6
  have hvF:OwnV w6 w.heap.size v6 (msgB m):=by
   have q:=hv6
   rw [hB.out]
   simpa only [List.append_assoc] using q
  obtain ⟨vF,hvf⟩:∃ V,v6 = V:=⟨_,rfl⟩
  have oF:Hid (OffB w.heap.size w w6):=oB
  clear oB hX hB hv4 hv5 hv6
  subst hvf
  obtain ⟨g1,k1,rfl,-,hk1⟩:=xbw hvF.1 (by omega)
  have hBy1:=By.own hvF.1 hk1
  go_wp2_with fail
  refine (xdl _ _ _ _ w6 hBy1 rfl).mono ?_
  rintro en ws ⟨rfl,rfl⟩
  go_wp2_with fail
  refine (rputS w.heap.size _ (msgB m) (sumN (msgB m)) 8 _ hvF (xdi _) (by decide) (by decide) (by omega)).mono ?_
  rintro en wf ⟨vf,rfl,hvf,owf⟩
  replace oF:=oF.out.trans owf
  have hsum:msgB m ++ putB (sumN (msgB m)) 8 = sumB (msgB m):=rfl
  rw [hsum] at hvf
  have hlen:=xbz (msgB m)
  obtain ⟨g2,k2,rfl,-,hk2⟩:=xbw hvf.1 (by omega)
  have hBy2:=By.own hvf.1 hk2
  have hnot:¬ (2000:Int) < ((sumB (msgB m)).length:Int):=by omega
  have hfin:Hid (∃ g c,(Ending.returned (.tuple #[.slice (some ⟨g2,0,none⟩) (sumB (msgB m)).length k2,.int .i64 0]):Ending) = .returned (.tuple #[.slice (some ⟨g,0,none⟩) (sumB (msgB m)).length c,.int .i64 0]) ∧ wf.ownsRow w.heap.size 5 1 (.slice (some ⟨g,0,none⟩) (sumB (msgB m)).length c) (sumB (msgB m)).length (Bs (sumB (msgB m))) ∧ By wf (some ⟨g,0,none⟩) c (sumB (msgB m)) ∧ Below w.heap.size w wf):=⟨g2,k2,rfl,hvf.1,hBy2,oF.below⟩
  clear hvf hBy2 oF hBy1 hvF hsum hlen owf
  go_wp2
  go_ret2
  exact hfin.out
 ·replace hkE:=hkE.out
  clear hkk n1
  have gD:DifG m.diff:=hG.out.diff (by rw [hkE];rfl)
  have iW:isSt m.diff.whole = true:=(dif_parts (hF.out.2 (by rw [hkE];rfl))).2
  have hB:Hid (msgB m = putB m.kind 1 ++ (putB m.src 1 ++ (putB m.dst 1 ++ (putB m.epoch 4 ++ (putB m.group 1 ++ difB m.diff))))):=by show _ = _;unfold msgB;rw [hkE];simp [shapeM,ifB]
  go_wp2_with fail
  refine xas (fun W=>Has W w.heap.size 48 (msgC m a1 c1 a2 c2 a3 c3)) (Plan.of [(0,true),(1,true),(2,true),(4,true),(5,true),(3,false),(6,false),(7,true)] .done) (by kernel_rfl) (by kernel_rfl) (by kernel_rfl) (by kernel_rfl) hX.drew ?_
  replace hX:=hX.drew
  replace hv4:=hv4.drew
  replace oB:OffB w.heap.size w _:=oB.trans (OffB.of (Below.refl _ _).drew hv4.2.1)
  generalize w4x.drew = w4 at *
  iterate 2
   first
    | (refine xad _ rfl (by rfl) ?_)
    | (refine xaa _ _ rfl (.inl ⟨by rfl,fun W hS=>by clear hS;go_simp;try with_reducible rfl⟩) ?_)
   try simp only [qp,qa,qb,qc]
  iterate 1
   first
    | (refine xad _ rfl (by rfl) ?_)
    | (refine xaa _ _ rfl (.inl ⟨by rfl,fun W hS=>by have z:=hS.mc_group;go_simp;try with_reducible rfl⟩) ?_)
   try simp only [qp,qa,qb,qc]
  iterate 1
   first
    | (refine xad _ rfl (by rfl) ?_)
    | (refine xaa _ _ rfl (.inl ⟨by rfl,fun W hS=>by clear hS;go_simp;try with_reducible rfl⟩) ?_)
   try simp only [qp,qa,qb,qc]
  refine xaa _ (.agg (diffC m.diff a2 c2 a3 c3)) rfl (xaj (by rfl) 46 _ rfl w.heap.size 62 rfl (diffL m.diff a2 c2 a3 c3) _ Tryz.underlying46 rfl (xdw m.diff a2 a3 c2 c3) (fun W hS=>hS.m_diff)) ?_
  try simp only [qp,qa,qb,qc]
  refine xam _ rfl (fun K hK=>?_)
  go_simp
  refine (xcw w.heap.size v4 _ m.group w4 hv4 hm.group (by simp [xal];try omega)).mono ?_
  rintro en w5 ⟨v5,rfl,hv5,ow5⟩
  refine hK.out _ _ (ow5.keep _ _ _ hX xbk) ?_
  clear hK K
  try simp only [qp,qa,qb,qc]
  replace hX:=ow5.keep _ _ _ hX xbk
  replace oB:=oB.trans ow5
  refine xam _ rfl (fun K hK=>?_)
  go_simp
  refine (rdiff_any w.heap.size v5 _ m.diff a2 a3 c2 c3 w5 hv5 (fun W hW=>⟨(sl.out _ (oB.trans hW).below).log,(sl.out _ (oB.trans hW).below).whole⟩) gD iW (by simp [xal];try omega)).mono ?_
  rintro en w6 ⟨v6,rfl,hv6,ow6⟩
  refine hK.out _ _ (ow6.keep _ _ _ hX xbk) ?_
  clear hK K
  try simp only [qp,qa,qb,qc]
  replace hX:=ow6.keep _ _ _ hX xbk
  replace oB:=oB.trans ow6
  iterate 1
   first
    | (refine xad _ rfl (by rfl) ?_)
    | (refine xaa _ _ rfl (.inl ⟨by rfl,fun W hS=>by clear hS;go_simp;try with_reducible rfl⟩) ?_)
   try simp only [qp,qa,qb,qc]
  refine xbf ?_
  have hvF:OwnV w6 w.heap.size v6 (msgB m):=by
   have q:=hv6
   rw [hB.out]
   simpa only [List.append_assoc] using q
  obtain ⟨vF,hvf⟩:∃ V,v6 = V:=⟨_,rfl⟩
  have oF:Hid (OffB w.heap.size w w6):=oB
  clear oB hX hB hv4 hv5 hv6
  subst hvf
  obtain ⟨g1,k1,rfl,-,hk1⟩:=xbw hvF.1 (by omega)
  have hBy1:=By.own hvF.1 hk1
  go_wp2_with fail
  refine (xdl _ _ _ _ w6 hBy1 rfl).mono ?_
  rintro en ws ⟨rfl,rfl⟩
  go_wp2_with fail
  refine (rputS w.heap.size _ (msgB m) (sumN (msgB m)) 8 _ hvF (xdi _) (by decide) (by decide) (by omega)).mono ?_
  rintro en wf ⟨vf,rfl,hvf,owf⟩
  replace oF:=oF.out.trans owf
  have hsum:msgB m ++ putB (sumN (msgB m)) 8 = sumB (msgB m):=rfl
  rw [hsum] at hvf
  have hlen:=xbz (msgB m)
  obtain ⟨g2,k2,rfl,-,hk2⟩:=xbw hvf.1 (by omega)
  have hBy2:=By.own hvf.1 hk2
  have hnot:¬ (2000:Int) < ((sumB (msgB m)).length:Int):=by omega
  have hfin:Hid (∃ g c,(Ending.returned (.tuple #[.slice (some ⟨g2,0,none⟩) (sumB (msgB m)).length k2,.int .i64 0]):Ending) = .returned (.tuple #[.slice (some ⟨g,0,none⟩) (sumB (msgB m)).length c,.int .i64 0]) ∧ wf.ownsRow w.heap.size 5 1 (.slice (some ⟨g,0,none⟩) (sumB (msgB m)).length c) (sumB (msgB m)).length (Bs (sumB (msgB m))) ∧ By wf (some ⟨g,0,none⟩) c (sumB (msgB m)) ∧ Below w.heap.size w wf):=⟨g2,k2,rfl,hvf.1,hBy2,oF.below⟩
  clear hvf hBy2 oF hBy1 hvF hsum hlen owf
  go_wp2
  go_ret2
  exact hfin.out

set_option maxHeartbeats 40000000 in
theorem denc_E (m:MsgV) (a1 a2 a3:Option Addr) (c1 c2 c3:Nat) (w:World) (hm:MsgOk m) (hkk:m.kind = 10 ∨ m.kind = 12 ∨ m.kind = 11) (sm:MsgSl w m a1 c1 a2 c2 a3 c3) (hi:isMsg m = true):Calls Tryz.prog 12 #[.agg (msgC m a1 c1 a2 c2 a3 c3)] w (EncR w m):=by
 obtain ⟨w1,hw1,hX,hb⟩:=xbr w 48 (msgC m a1 c1 a2 c2 a3 c3)
 have hG:=xhi hm hi
 obtain ⟨_,hfit,_⟩:=xch.1 hi
 have hF0:=xhl _ _ hfit
 have hF:Hid (((shapeM m.kind).st = true → isSt m.st = true) ∧ ((shapeM m.kind).dif = true → xcq m.diff = true)):=⟨hF0.1,hF0.2.1⟩
 obtain ⟨hl1,hl2⟩:=xdp hG
 have hsl:Hid (∀ W,Below w.heap.size w W → MsgSl W m a1 c1 a2 c2 a3 c3):=fun W h=>sm.later h
 have sl:=hsl
 clear hsl
 replace hG:Hid _:=hG
 replace hi:Hid _:=hi
 clear hfit hF0
 obtain ⟨kk,hkE⟩:∃ k,m.kind = k:=⟨_,rfl⟩
 rw [hkE] at hkk
 replace hkE:Hid _:=hkE
 replace hkk:Hid _:=hkk
 go_enter Tryz.func12,Tryz.ntmps12
 go_wp2_with (first
  | (refine xab (by rfl) 48 _ rfl w.heap.size rfl 48 (msgC m a1 c1 a2 c2 a3 c3) _ Tryz.underlying48 rfl (xah m a1 a2 a3 c1 c2 c3) ?hg ?_;(case hg=>exact hX))
  | fail)
 refine (xfp m a1 a2 a3 c1 c2 c3 _ hm (sm.later hb)).mono ?_
 rintro en w2 ⟨rfl,hq⟩
 rw [hi.out]
 replace hX:=hX.later hq
 replace hb:=hb.trans (hq.mono hb.size)
 clear hq hw1 sm
 have y0:=hX.mc_kind
 have y1:=hX.mc_src
 have y2:=hX.mc_dst
 have hv3:=own_b3 w2 w.heap.size m.kind m.src m.dst hm.kind hm.src hm.dst hb.size
 have hq3:Below w2.heap.size w2 (w2.alloc (.cells #[.int .u8 (m.kind:Int),.int .u8 (m.src:Int),.int .u8 (m.dst:Int)] 5)):=(Below.refl _ _).alloc (Nat.le_refl _) _
 have y3:=(hX.later hq3).mc_epoch
 go_wp2_with fail
 refine (xcs w.heap.size _ _ m.epoch _ hv3 hm.epoch (by simp [xal])).mono ?_
 rintro en w4x ⟨v4,rfl,hv4,ow4⟩
 have oB:OffB w.heap.size w w4x:=(OffB.of (hb.trans (hq3.mono hb.size)) (Nat.le_refl _)).trans ow4
 replace hX:=ow4.keep _ _ _ (hX.later hq3) xbk
 clear y0 y1 y2 y3 hv3 hq3 ow4 hb
 have x0:=hX.mc_kind
 rw [hkE.out] at x0
 have n1:True:=trivial
 rcases hkk.out with rfl | rfl | rfl
 ·replace hkE:=hkE.out
  clear hkk n1
  have hB:Hid (msgB m = putB m.kind 1 ++ (putB m.src 1 ++ (putB m.dst 1 ++ (putB m.epoch 4 ++ (putB m.group 1 ++ putB m.n 4))))):=by show _ = _;unfold msgB;rw [hkE];simp [shapeM,ifB]
  go_wp2_with fail
  refine xas (fun W=>Has W w.heap.size 48 (msgC m a1 c1 a2 c2 a3 c3)) (Plan.of [(0,true),(1,true),(2,true),(4,true),(5,true),(3,false),(6,false),(7,true)] .done) (by kernel_rfl) (by kernel_rfl) (by kernel_rfl) (by kernel_rfl) hX.drew ?_
  replace hX:=hX.drew
  replace hv4:=hv4.drew
  replace oB:OffB w.heap.size w _:=oB.trans (OffB.of (Below.refl _ _).drew hv4.2.1)
  generalize w4x.drew = w4 at *
  iterate 2
   first
    | (refine xad _ rfl (by rfl) ?_)
    | (refine xaa _ _ rfl (.inl ⟨by rfl,fun W hS=>by clear hS;go_simp;try with_reducible rfl⟩) ?_)
   try simp only [qp,qa,qb,qc]
  iterate 1
   first
    | (refine xad _ rfl (by rfl) ?_)
    | (refine xaa _ _ rfl (.inl ⟨by rfl,fun W hS=>by have z:=hS.mc_group;go_simp;try with_reducible rfl⟩) ?_)
   try simp only [qp,qa,qb,qc]
  iterate 1
   first
    | (refine xad _ rfl (by rfl) ?_)
    | (refine xaa _ _ rfl (.inl ⟨by rfl,fun W hS=>by clear hS;go_simp;try with_reducible rfl⟩) ?_)
   try simp only [qp,qa,qb,qc]
  iterate 1
   first
    | (refine xad _ rfl (by rfl) ?_)
    | (refine xaa _ _ rfl (.inl ⟨by rfl,fun W hS=>by have z:=hS.mc_n;go_simp;try with_reducible rfl⟩) ?_)
   try simp only [qp,qa,qb,qc]
  refine xam _ rfl (fun K hK=>?_)
  go_simp
  refine (xcw w.heap.size v4 _ m.group w4 hv4 hm.group (by simp [xal];try omega)).mono ?_
  rintro en w5 ⟨v5,rfl,hv5,ow5⟩
  refine hK.out _ _ (ow5.keep _ _ _ hX xbk) ?_
  clear hK K
  try simp only [qp,qa,qb,qc]
  replace hX:=ow5.keep _ _ _ hX xbk
  replace oB:=oB.trans ow5
  refine xam _ rfl (fun K hK=>?_)
  go_simp
  refine (xcs w.heap.size v5 _ m.n w5 hv5 hm.n (by simp [xal];try omega)).mono ?_
  rintro en w6 ⟨v6,rfl,hv6,ow6⟩
  refine hK.out _ _ (ow6.keep _ _ _ hX xbk) ?_
  clear hK K
  try simp only [qp,qa,qb,qc]
  replace hX:=ow6.keep _ _ _ hX xbk
  replace oB:=oB.trans ow6
  iterate 1
   first
    | (refine xad _ rfl (by rfl) ?_)
    | (refine xaa _ _ rfl (.inl ⟨by rfl,fun W hS=>by clear hS;go_simp;try with_reducible rfl⟩) ?_)
   try simp only [qp,qa,qb,qc]
  refine xbf ?_
  have hvF:OwnV w6 w.heap.size v6 (msgB m):=by
   have q:=hv6
   rw [hB.out]
   simpa only [List.append_assoc] using q
  obtain ⟨vF,hvf⟩:∃ V,v6 = V:=⟨_,rfl⟩
  have oF:Hid (OffB w.heap.size w w6):=oB
  clear oB hX hB hv4 hv5 hv6
  subst hvf
  obtain ⟨g1,k1,rfl,-,hk1⟩:=xbw hvF.1 (by omega)
  have hBy1:=By.own hvF.1 hk1
  go_wp2_with fail
  refine (xdl _ _ _ _ w6 hBy1 rfl).mono ?_
  rintro en ws ⟨rfl,rfl⟩
  go_wp2_with fail
  refine (rputS w.heap.size _ (msgB m) (sumN (msgB m)) 8 _ hvF (xdi _) (by decide) (by decide) (by omega)).mono ?_
  rintro en wf ⟨vf,rfl,hvf,owf⟩
  replace oF:=oF.out.trans owf
  have hsum:msgB m ++ putB (sumN (msgB m)) 8 = sumB (msgB m):=rfl
  rw [hsum] at hvf
  have hlen:=xbz (msgB m)
  obtain ⟨g2,k2,rfl,-,hk2⟩:=xbw hvf.1 (by omega)
  have hBy2:=By.own hvf.1 hk2
  have hnot:¬ (2000:Int) < ((sumB (msgB m)).length:Int):=by omega
  have hfin:Hid (∃ g c,(Ending.returned (.tuple #[.slice (some ⟨g2,0,none⟩) (sumB (msgB m)).length k2,.int .i64 0]):Ending) = .returned (.tuple #[.slice (some ⟨g,0,none⟩) (sumB (msgB m)).length c,.int .i64 0]) ∧ wf.ownsRow w.heap.size 5 1 (.slice (some ⟨g,0,none⟩) (sumB (msgB m)).length c) (sumB (msgB m)).length (Bs (sumB (msgB m))) ∧ By wf (some ⟨g,0,none⟩) c (sumB (msgB m)) ∧ Below w.heap.size w wf):=⟨g2,k2,rfl,hvf.1,hBy2,oF.below⟩
  clear hvf hBy2 oF hBy1 hvF hsum hlen owf
  go_wp2
  go_ret2
  exact hfin.out
 ·replace hkE:=hkE.out
  clear hkk n1
  have hB:Hid (msgB m = putB m.kind 1 ++ (putB m.src 1 ++ (putB m.dst 1 ++ (putB m.epoch 4 ++ (putB m.group 1 ++ putB m.n 4))))):=by show _ = _;unfold msgB;rw [hkE];simp [shapeM,ifB]
  go_wp2_with fail
  refine xas (fun W=>Has W w.heap.size 48 (msgC m a1 c1 a2 c2 a3 c3)) (Plan.of [(0,true),(1,true),(2,true),(4,true),(5,true),(3,false),(6,false),(7,true)] .done) (by kernel_rfl) (by kernel_rfl) (by kernel_rfl) (by kernel_rfl) hX.drew ?_
  replace hX:=hX.drew
  replace hv4:=hv4.drew
  replace oB:OffB w.heap.size w _:=oB.trans (OffB.of (Below.refl _ _).drew hv4.2.1)
  generalize w4x.drew = w4 at *
  iterate 2
   first
    | (refine xad _ rfl (by rfl) ?_)
    | (refine xaa _ _ rfl (.inl ⟨by rfl,fun W hS=>by clear hS;go_simp;try with_reducible rfl⟩) ?_)
   try simp only [qp,qa,qb,qc]
  iterate 1
   first
    | (refine xad _ rfl (by rfl) ?_)
    | (refine xaa _ _ rfl (.inl ⟨by rfl,fun W hS=>by have z:=hS.mc_group;go_simp;try with_reducible rfl⟩) ?_)
   try simp only [qp,qa,qb,qc]
  iterate 1
   first
    | (refine xad _ rfl (by rfl) ?_)
    | (refine xaa _ _ rfl (.inl ⟨by rfl,fun W hS=>by clear hS;go_simp;try with_reducible rfl⟩) ?_)
   try simp only [qp,qa,qb,qc]
  iterate 1
   first
    | (refine xad _ rfl (by rfl) ?_)
    | (refine xaa _ _ rfl (.inl ⟨by rfl,fun W hS=>by have z:=hS.mc_n;go_simp;try with_reducible rfl⟩) ?_)
   try simp only [qp,qa,qb,qc]
  refine xam _ rfl (fun K hK=>?_)
  go_simp
  refine (xcw w.heap.size v4 _ m.group w4 hv4 hm.group (by simp [xal];try omega)).mono ?_
  rintro en w5 ⟨v5,rfl,hv5,ow5⟩
  refine hK.out _ _ (ow5.keep _ _ _ hX xbk) ?_
  clear hK K
  try simp only [qp,qa,qb,qc]
  replace hX:=ow5.keep _ _ _ hX xbk
  replace oB:=oB.trans ow5
  refine xam _ rfl (fun K hK=>?_)
  go_simp
  refine (xcs w.heap.size v5 _ m.n w5 hv5 hm.n (by simp [xal];try omega)).mono ?_
  rintro en w6 ⟨v6,rfl,hv6,ow6⟩
  refine hK.out _ _ (ow6.keep _ _ _ hX xbk) ?_
  clear hK K
  try simp only [qp,qa,qb,qc]
  replace hX:=ow6.keep _ _ _ hX xbk
  replace oB:=oB.trans ow6
  iterate 1
   first
    | (refine xad _ rfl (by rfl) ?_)
    | (refine xaa _ _ rfl (.inl ⟨by rfl,fun W hS=>by clear hS;go_simp;try with_reducible rfl⟩) ?_)
   try simp only [qp,qa,qb,qc]
  refine xbf ?_
  have hvF:OwnV w6 w.heap.size v6 (msgB m):=by
   have q:=hv6
   rw [hB.out]
   simpa only [List.append_assoc] using q
  obtain ⟨vF,hvf⟩:∃ V,v6 = V:=⟨_,rfl⟩
  have oF:Hid (OffB w.heap.size w w6):=oB
  clear oB hX hB hv4 hv5 hv6
  subst hvf
  obtain ⟨g1,k1,rfl,-,hk1⟩:=xbw hvF.1 (by omega)
  have hBy1:=By.own hvF.1 hk1
  go_wp2_with fail
  refine (xdl _ _ _ _ w6 hBy1 rfl).mono ?_
  rintro en ws ⟨rfl,rfl⟩
  go_wp2_with fail
  refine (rputS w.heap.size _ (msgB m) (sumN (msgB m)) 8 _ hvF (xdi _) (by decide) (by decide) (by omega)).mono ?_
  rintro en wf ⟨vf,rfl,hvf,owf⟩
  replace oF:=oF.out.trans owf
  have hsum:msgB m ++ putB (sumN (msgB m)) 8 = sumB (msgB m):=rfl
  rw [hsum] at hvf
  have hlen:=xbz (msgB m)
  obtain ⟨g2,k2,rfl,-,hk2⟩:=xbw hvf.1 (by omega)
  have hBy2:=By.own hvf.1 hk2
  have hnot:¬ (2000:Int) < ((sumB (msgB m)).length:Int):=by omega
  have hfin:Hid (∃ g c,(Ending.returned (.tuple #[.slice (some ⟨g2,0,none⟩) (sumB (msgB m)).length k2,.int .i64 0]):Ending) = .returned (.tuple #[.slice (some ⟨g,0,none⟩) (sumB (msgB m)).length c,.int .i64 0]) ∧ wf.ownsRow w.heap.size 5 1 (.slice (some ⟨g,0,none⟩) (sumB (msgB m)).length c) (sumB (msgB m)).length (Bs (sumB (msgB m))) ∧ By wf (some ⟨g,0,none⟩) c (sumB (msgB m)) ∧ Below w.heap.size w wf):=⟨g2,k2,rfl,hvf.1,hBy2,oF.below⟩
  clear hvf hBy2 oF hBy1 hvF hsum hlen owf
  go_wp2
  go_ret2
  exact hfin.out
 ·replace hkE:=hkE.out
  clear hkk n1
  have gE:EntG m.ent:=hG.out.ent (by rw [hkE];rfl)
  have hB:Hid (msgB m = putB m.kind 1 ++ (putB m.src 1 ++ (putB m.dst 1 ++ (putB m.epoch 4 ++ (putB m.group 1 ++ entB m.ent))))):=by show _ = _;unfold msgB;rw [hkE];simp [shapeM,ifB]
  go_wp2_with fail
  refine xas (fun W=>Has W w.heap.size 48 (msgC m a1 c1 a2 c2 a3 c3)) (Plan.of [(0,true),(1,true),(2,true),(4,true),(5,true),(3,false),(6,false),(7,true)] .done) (by kernel_rfl) (by kernel_rfl) (by kernel_rfl) (by kernel_rfl) hX.drew ?_
  replace hX:=hX.drew
  replace hv4:=hv4.drew
  replace oB:OffB w.heap.size w _:=oB.trans (OffB.of (Below.refl _ _).drew hv4.2.1)
  generalize w4x.drew = w4 at *
  iterate 2
   first
    | (refine xad _ rfl (by rfl) ?_)
    | (refine xaa _ _ rfl (.inl ⟨by rfl,fun W hS=>by clear hS;go_simp;try with_reducible rfl⟩) ?_)
   try simp only [qp,qa,qb,qc]
  iterate 1
   first
    | (refine xad _ rfl (by rfl) ?_)
    | (refine xaa _ _ rfl (.inl ⟨by rfl,fun W hS=>by have z:=hS.mc_group;go_simp;try with_reducible rfl⟩) ?_)
   try simp only [qp,qa,qb,qc]
  iterate 1
   first
    | (refine xad _ rfl (by rfl) ?_)
    | (refine xaa _ _ rfl (.inl ⟨by rfl,fun W hS=>by clear hS;go_simp;try with_reducible rfl⟩) ?_)
   try simp only [qp,qa,qb,qc]
  refine xaa _ (.agg (entC m.ent)) rfl (xaj (by rfl) 41 _ rfl w.heap.size 114 rfl (entL m.ent) _ Tryz.underlying41 rfl (xax m.ent) (fun W hS=>hS.m_ent)) ?_
  try simp only [qp,qa,qb,qc]
  refine xam _ rfl (fun K hK=>?_)
  go_simp
  refine (xcw w.heap.size v4 _ m.group w4 hv4 hm.group (by simp [xal];try omega)).mono ?_
  rintro en w5 ⟨v5,rfl,hv5,ow5⟩
  refine hK.out _ _ (ow5.keep _ _ _ hX xbk) ?_
  clear hK K
  try simp only [qp,qa,qb,qc]
  replace hX:=ow5.keep _ _ _ hX xbk
  replace oB:=oB.trans ow5
  refine xam _ rfl (fun K hK=>?_)
  go_simp
  refine (rent_any w.heap.size v5 _ m.ent w5 hv5 gE (by simp [xal];try omega)).mono ?_
  rintro en w6 ⟨v6,rfl,hv6,ow6⟩
  refine hK.out _ _ (ow6.keep _ _ _ hX xbk) ?_
  clear hK K
  try simp only [qp,qa,qb,qc]
  replace hX:=ow6.keep _ _ _ hX xbk
  replace oB:=oB.trans ow6
  iterate 1
   first
    | (refine xad _ rfl (by rfl) ?_)
    | (refine xaa _ _ rfl (.inl ⟨by rfl,fun W hS=>by clear hS;go_simp;try with_reducible rfl⟩) ?_)
   try simp only [qp,qa,qb,qc]
  refine xbf ?_
  have hvF:OwnV w6 w.heap.size v6 (msgB m):=by
   have q:=hv6
   rw [hB.out]
   simpa only [List.append_assoc] using q
  obtain ⟨vF,hvf⟩:∃ V,v6 = V:=⟨_,rfl⟩
  have oF:Hid (OffB w.heap.size w w6):=oB
  clear oB hX hB hv4 hv5 hv6
  subst hvf
  obtain ⟨g1,k1,rfl,-,hk1⟩:=xbw hvF.1 (by omega)
  have hBy1:=By.own hvF.1 hk1
  go_wp2_with fail
  refine (xdl _ _ _ _ w6 hBy1 rfl).mono ?_
  rintro en ws ⟨rfl,rfl⟩
  go_wp2_with fail
  refine (rputS w.heap.size _ (msgB m) (sumN (msgB m)) 8 _ hvF (xdi _) (by decide) (by decide) (by omega)).mono ?_
  rintro en wf ⟨vf,rfl,hvf,owf⟩
  replace oF:=oF.out.trans owf
  have hsum:msgB m ++ putB (sumN (msgB m)) 8 = sumB (msgB m):=rfl
  rw [hsum] at hvf
  have hlen:=xbz (msgB m)
  obtain ⟨g2,k2,rfl,-,hk2⟩:=xbw hvf.1 (by omega)
  have hBy2:=By.own hvf.1 hk2
  have hnot:¬ (2000:Int) < ((sumB (msgB m)).length:Int):=by omega
  have hfin:Hid (∃ g c,(Ending.returned (.tuple #[.slice (some ⟨g2,0,none⟩) (sumB (msgB m)).length k2,.int .i64 0]):Ending) = .returned (.tuple #[.slice (some ⟨g,0,none⟩) (sumB (msgB m)).length c,.int .i64 0]) ∧ wf.ownsRow w.heap.size 5 1 (.slice (some ⟨g,0,none⟩) (sumB (msgB m)).length c) (sumB (msgB m)).length (Bs (sumB (msgB m))) ∧ By wf (some ⟨g,0,none⟩) c (sumB (msgB m)) ∧ Below w.heap.size w wf):=⟨g2,k2,rfl,hvf.1,hBy2,oF.below⟩
  clear hvf hBy2 oF hBy1 hvF hsum hlen owf
  go_wp2
  go_ret2
  exact hfin.out

set_option maxHeartbeats 40000000 in
theorem denc_F (m:MsgV) (a1 a2 a3:Option Addr) (c1 c2 c3:Nat) (w:World) (hm:MsgOk m) (hkk:m.kind = 13 ∨ m.kind = 14) (sm:MsgSl w m a1 c1 a2 c2 a3 c3) (hi:isMsg m = true):Calls Tryz.prog 12 #[.agg (msgC m a1 c1 a2 c2 a3 c3)] w (EncR w m):=by
 obtain ⟨w1,hw1,hX,hb⟩:=xbr w 48 (msgC m a1 c1 a2 c2 a3 c3)
 have hG:=xhi hm hi
 obtain ⟨_,hfit,_⟩:=xch.1 hi
 have hF0:=xhl _ _ hfit
 have hF:Hid (((shapeM m.kind).st = true → isSt m.st = true) ∧ ((shapeM m.kind).dif = true → xcq m.diff = true)):=⟨hF0.1,hF0.2.1⟩
 obtain ⟨hl1,hl2⟩:=xdp hG
 have hsl:Hid (∀ W,Below w.heap.size w W → MsgSl W m a1 c1 a2 c2 a3 c3):=fun W h=>sm.later h
 have sl:=hsl
 clear hsl
 replace hG:Hid _:=hG
 replace hi:Hid _:=hi
 clear hfit hF0
 obtain ⟨kk,hkE⟩:∃ k,m.kind = k:=⟨_,rfl⟩
 rw [hkE] at hkk
 replace hkE:Hid _:=hkE
 replace hkk:Hid _:=hkk
 go_enter Tryz.func12,Tryz.ntmps12
 go_wp2_with (first
  | (refine xab (by rfl) 48 _ rfl w.heap.size rfl 48 (msgC m a1 c1 a2 c2 a3 c3) _ Tryz.underlying48 rfl (xah m a1 a2 a3 c1 c2 c3) ?hg ?_;(case hg=>exact hX))
  | fail)
 refine (xfp m a1 a2 a3 c1 c2 c3 _ hm (sm.later hb)).mono ?_
 rintro en w2 ⟨rfl,hq⟩
 rw [hi.out]
 replace hX:=hX.later hq
 replace hb:=hb.trans (hq.mono hb.size)
 clear hq hw1 sm
 have y0:=hX.mc_kind
 have y1:=hX.mc_src
 have y2:=hX.mc_dst
 have hv3:=own_b3 w2 w.heap.size m.kind m.src m.dst hm.kind hm.src hm.dst hb.size
 have hq3:Below w2.heap.size w2 (w2.alloc (.cells #[.int .u8 (m.kind:Int),.int .u8 (m.src:Int),.int .u8 (m.dst:Int)] 5)):=(Below.refl _ _).alloc (Nat.le_refl _) _
 have y3:=(hX.later hq3).mc_epoch
 go_wp2_with fail
 refine (xcs w.heap.size _ _ m.epoch _ hv3 hm.epoch (by simp [xal])).mono ?_
 rintro en w4x ⟨v4,rfl,hv4,ow4⟩
 have oB:OffB w.heap.size w w4x:=(OffB.of (hb.trans (hq3.mono hb.size)) (Nat.le_refl _)).trans ow4
 replace hX:=ow4.keep _ _ _ (hX.later hq3) xbk
 clear y0 y1 y2 y3 hv3 hq3 ow4 hb
 have x0:=hX.mc_kind
 rw [hkE.out] at x0
 have n1:True:=trivial
 rcases hkk.out with rfl | rfl
 ·replace hkE:=hkE.out
  clear hkk n1
  have gO:OpG m.op:=hG.out.op (by rw [hkE];rfl)
  have hB:Hid (msgB m = putB m.kind 1 ++ (putB m.src 1 ++ (putB m.dst 1 ++ (putB m.epoch 4 ++ (putB m.group 1 ++ opB m.op))))):=by show _ = _;unfold msgB;rw [hkE];simp [shapeM,ifB]
  go_wp2_with fail
  refine xas (fun W=>Has W w.heap.size 48 (msgC m a1 c1 a2 c2 a3 c3)) (Plan.of [(0,true),(1,true),(2,true),(4,true),(5,true),(3,false),(6,false),(7,true)] .done) (by kernel_rfl) (by kernel_rfl) (by kernel_rfl) (by kernel_rfl) hX.drew ?_
  replace hX:=hX.drew
  replace hv4:=hv4.drew
  replace oB:OffB w.heap.size w _:=oB.trans (OffB.of (Below.refl _ _).drew hv4.2.1)
  generalize w4x.drew = w4 at *
  iterate 2
   first
    | (refine xad _ rfl (by rfl) ?_)
    | (refine xaa _ _ rfl (.inl ⟨by rfl,fun W hS=>by clear hS;go_simp;try with_reducible rfl⟩) ?_)
   try simp only [qp,qa,qb,qc]
  iterate 1
   first
    | (refine xad _ rfl (by rfl) ?_)
    | (refine xaa _ _ rfl (.inl ⟨by rfl,fun W hS=>by have z:=hS.mc_group;go_simp;try with_reducible rfl⟩) ?_)
   try simp only [qp,qa,qb,qc]
  iterate 1
   first
    | (refine xad _ rfl (by rfl) ?_)
    | (refine xaa _ _ rfl (.inl ⟨by rfl,fun W hS=>by clear hS;go_simp;try with_reducible rfl⟩) ?_)
   try simp only [qp,qa,qb,qc]
  refine xaa _ (.agg (opC m.op)) rfl (xaj (by rfl) 39 _ rfl w.heap.size 123 rfl (opL m.op) _ Tryz.underlying39 rfl (xca m.op) (fun W hS=>hS.m_op)) ?_
  try simp only [qp,qa,qb,qc]
  refine xam _ rfl (fun K hK=>?_)
  go_simp
  refine (xcw w.heap.size v4 _ m.group w4 hv4 hm.group (by simp [xal];try omega)).mono ?_
  rintro en w5 ⟨v5,rfl,hv5,ow5⟩
  refine hK.out _ _ (ow5.keep _ _ _ hX xbk) ?_
  clear hK K
  try simp only [qp,qa,qb,qc]
  replace hX:=ow5.keep _ _ _ hX xbk
  replace oB:=oB.trans ow5
  refine xam _ rfl (fun K hK=>?_)
  go_simp
  refine (rop_any w.heap.size v5 _ m.op w5 hv5 gO (by simp [xal];try omega)).mono ?_
  rintro en w6 ⟨v6,rfl,hv6,ow6⟩
  refine hK.out _ _ (ow6.keep _ _ _ hX xbk) ?_
  clear hK K
  try simp only [qp,qa,qb,qc]
  replace hX:=ow6.keep _ _ _ hX xbk
  replace oB:=oB.trans ow6
  iterate 1
   first
    | (refine xad _ rfl (by rfl) ?_)
    | (refine xaa _ _ rfl (.inl ⟨by rfl,fun W hS=>by clear hS;go_simp;try with_reducible rfl⟩) ?_)
   try simp only [qp,qa,qb,qc]
  refine xbf ?_
  have hvF:OwnV w6 w.heap.size v6 (msgB m):=by
   have q:=hv6
   rw [hB.out]
   simpa only [List.append_assoc] using q
  obtain ⟨vF,hvf⟩:∃ V,v6 = V:=⟨_,rfl⟩
  have oF:Hid (OffB w.heap.size w w6):=oB
  clear oB hX hB hv4 hv5 hv6
  subst hvf
  obtain ⟨g1,k1,rfl,-,hk1⟩:=xbw hvF.1 (by omega)
  have hBy1:=By.own hvF.1 hk1
  go_wp2_with fail
  refine (xdl _ _ _ _ w6 hBy1 rfl).mono ?_
  rintro en ws ⟨rfl,rfl⟩
  go_wp2_with fail
  refine (rputS w.heap.size _ (msgB m) (sumN (msgB m)) 8 _ hvF (xdi _) (by decide) (by decide) (by omega)).mono ?_
  rintro en wf ⟨vf,rfl,hvf,owf⟩
  replace oF:=oF.out.trans owf
  have hsum:msgB m ++ putB (sumN (msgB m)) 8 = sumB (msgB m):=rfl
  rw [hsum] at hvf
  have hlen:=xbz (msgB m)
  obtain ⟨g2,k2,rfl,-,hk2⟩:=xbw hvf.1 (by omega)
  have hBy2:=By.own hvf.1 hk2
  have hnot:¬ (2000:Int) < ((sumB (msgB m)).length:Int):=by omega
  have hfin:Hid (∃ g c,(Ending.returned (.tuple #[.slice (some ⟨g2,0,none⟩) (sumB (msgB m)).length k2,.int .i64 0]):Ending) = .returned (.tuple #[.slice (some ⟨g,0,none⟩) (sumB (msgB m)).length c,.int .i64 0]) ∧ wf.ownsRow w.heap.size 5 1 (.slice (some ⟨g,0,none⟩) (sumB (msgB m)).length c) (sumB (msgB m)).length (Bs (sumB (msgB m))) ∧ By wf (some ⟨g,0,none⟩) c (sumB (msgB m)) ∧ Below w.heap.size w wf):=⟨g2,k2,rfl,hvf.1,hBy2,oF.below⟩
  clear hvf hBy2 oF hBy1 hvF hsum hlen owf
  go_wp2
  go_ret2
  exact hfin.out
 ·replace hkE:=hkE.out
  clear hkk n1
  have gO:OpG m.op:=hG.out.op (by rw [hkE];rfl)
  have hB:Hid (msgB m = putB m.kind 1 ++ (putB m.src 1 ++ (putB m.dst 1 ++ (putB m.epoch 4 ++ (putB m.group 1 ++ opB m.op))))):=by show _ = _;unfold msgB;rw [hkE];simp [shapeM,ifB]
  go_wp2_with fail
  refine xas (fun W=>Has W w.heap.size 48 (msgC m a1 c1 a2 c2 a3 c3)) (Plan.of [(0,true),(1,true),(2,true),(4,true),(5,true),(3,false),(6,false),(7,true)] .done) (by kernel_rfl) (by kernel_rfl) (by kernel_rfl) (by kernel_rfl) hX.drew ?_
  replace hX:=hX.drew
  replace hv4:=hv4.drew
  replace oB:OffB w.heap.size w _:=oB.trans (OffB.of (Below.refl _ _).drew hv4.2.1)
  generalize w4x.drew = w4 at *
  iterate 2
   first
    | (refine xad _ rfl (by rfl) ?_)
    | (refine xaa _ _ rfl (.inl ⟨by rfl,fun W hS=>by clear hS;go_simp;try with_reducible rfl⟩) ?_)
   try simp only [qp,qa,qb,qc]
  iterate 1
   first
    | (refine xad _ rfl (by rfl) ?_)
    | (refine xaa _ _ rfl (.inl ⟨by rfl,fun W hS=>by have z:=hS.mc_group;go_simp;try with_reducible rfl⟩) ?_)
   try simp only [qp,qa,qb,qc]
  iterate 1
   first
    | (refine xad _ rfl (by rfl) ?_)
    | (refine xaa _ _ rfl (.inl ⟨by rfl,fun W hS=>by clear hS;go_simp;try with_reducible rfl⟩) ?_)
   try simp only [qp,qa,qb,qc]
  refine xaa _ (.agg (opC m.op)) rfl (xaj (by rfl) 39 _ rfl w.heap.size 123 rfl (opL m.op) _ Tryz.underlying39 rfl (xca m.op) (fun W hS=>hS.m_op)) ?_
  try simp only [qp,qa,qb,qc]
  refine xam _ rfl (fun K hK=>?_)
  go_simp
  refine (xcw w.heap.size v4 _ m.group w4 hv4 hm.group (by simp [xal];try omega)).mono ?_
  rintro en w5 ⟨v5,rfl,hv5,ow5⟩
  refine hK.out _ _ (ow5.keep _ _ _ hX xbk) ?_
  clear hK K
  try simp only [qp,qa,qb,qc]
  replace hX:=ow5.keep _ _ _ hX xbk
  replace oB:=oB.trans ow5
  refine xam _ rfl (fun K hK=>?_)
  go_simp
  refine (rop_any w.heap.size v5 _ m.op w5 hv5 gO (by simp [xal];try omega)).mono ?_
  rintro en w6 ⟨v6,rfl,hv6,ow6⟩
  refine hK.out _ _ (ow6.keep _ _ _ hX xbk) ?_
  clear hK K
  try simp only [qp,qa,qb,qc]
  replace hX:=ow6.keep _ _ _ hX xbk
  replace oB:=oB.trans ow6
  iterate 1
   first
    | (refine xad _ rfl (by rfl) ?_)
    | (refine xaa _ _ rfl (.inl ⟨by rfl,fun W hS=>by clear hS;go_simp;try with_reducible rfl⟩) ?_)
   try simp only [qp,qa,qb,qc]
  refine xbf ?_
  have hvF:OwnV w6 w.heap.size v6 (msgB m):=by
   have q:=hv6
   rw [hB.out]
   simpa only [List.append_assoc] using q
  obtain ⟨vF,hvf⟩:∃ V,v6 = V:=⟨_,rfl⟩
  have oF:Hid (OffB w.heap.size w w6):=oB
  clear oB hX hB hv4 hv5 hv6
  subst hvf
  obtain ⟨g1,k1,rfl,-,hk1⟩:=xbw hvF.1 (by omega)
  have hBy1:=By.own hvF.1 hk1
  go_wp2_with fail
  refine (xdl _ _ _ _ w6 hBy1 rfl).mono ?_
  rintro en ws ⟨rfl,rfl⟩
  go_wp2_with fail
  refine (rputS w.heap.size _ (msgB m) (sumN (msgB m)) 8 _ hvF (xdi _) (by decide) (by decide) (by omega)).mono ?_
  rintro en wf ⟨vf,rfl,hvf,owf⟩
  replace oF:=oF.out.trans owf
  have hsum:msgB m ++ putB (sumN (msgB m)) 8 = sumB (msgB m):=rfl
  rw [hsum] at hvf
  have hlen:=xbz (msgB m)
  obtain ⟨g2,k2,rfl,-,hk2⟩:=xbw hvf.1 (by omega)
  have hBy2:=By.own hvf.1 hk2
  have hnot:¬ (2000:Int) < ((sumB (msgB m)).length:Int):=by omega
  have hfin:Hid (∃ g c,(Ending.returned (.tuple #[.slice (some ⟨g2,0,none⟩) (sumB (msgB m)).length k2,.int .i64 0]):Ending) = .returned (.tuple #[.slice (some ⟨g,0,none⟩) (sumB (msgB m)).length c,.int .i64 0]) ∧ wf.ownsRow w.heap.size 5 1 (.slice (some ⟨g,0,none⟩) (sumB (msgB m)).length c) (sumB (msgB m)).length (Bs (sumB (msgB m))) ∧ By wf (some ⟨g,0,none⟩) c (sumB (msgB m)) ∧ Below w.heap.size w wf):=⟨g2,k2,rfl,hvf.1,hBy2,oF.below⟩
  clear hvf hBy2 oF hBy1 hvF hsum hlen owf
  go_wp2
  go_ret2
  exact hfin.out

set_option maxHeartbeats 40000000 in
theorem denc_G (m:MsgV) (a1 a2 a3:Option Addr) (c1 c2 c3:Nat) (w:World) (hm:MsgOk m) (hkk:m.kind = 15 ∨ m.kind = 16) (sm:MsgSl w m a1 c1 a2 c2 a3 c3) (hi:isMsg m = true):Calls Tryz.prog 12 #[.agg (msgC m a1 c1 a2 c2 a3 c3)] w (EncR w m):=by
 obtain ⟨w1,hw1,hX,hb⟩:=xbr w 48 (msgC m a1 c1 a2 c2 a3 c3)
 have hG:=xhi hm hi
 obtain ⟨_,hfit,_⟩:=xch.1 hi
 have hF0:=xhl _ _ hfit
 have hF:Hid (((shapeM m.kind).st = true → isSt m.st = true) ∧ ((shapeM m.kind).dif = true → xcq m.diff = true)):=⟨hF0.1,hF0.2.1⟩
 obtain ⟨hl1,hl2⟩:=xdp hG
 have hsl:Hid (∀ W,Below w.heap.size w W → MsgSl W m a1 c1 a2 c2 a3 c3):=fun W h=>sm.later h
 have sl:=hsl
 clear hsl
 replace hG:Hid _:=hG
 replace hi:Hid _:=hi
 clear hfit hF0
 obtain ⟨kk,hkE⟩:∃ k,m.kind = k:=⟨_,rfl⟩
 rw [hkE] at hkk
 replace hkE:Hid _:=hkE
 replace hkk:Hid _:=hkk
 go_enter Tryz.func12,Tryz.ntmps12
 go_wp2_with (first
  | (refine xab (by rfl) 48 _ rfl w.heap.size rfl 48 (msgC m a1 c1 a2 c2 a3 c3) _ Tryz.underlying48 rfl (xah m a1 a2 a3 c1 c2 c3) ?hg ?_;(case hg=>exact hX))
  | fail)
 refine (xfp m a1 a2 a3 c1 c2 c3 _ hm (sm.later hb)).mono ?_
 rintro en w2 ⟨rfl,hq⟩
 rw [hi.out]
 replace hX:=hX.later hq
 replace hb:=hb.trans (hq.mono hb.size)
 clear hq hw1 sm
 have y0:=hX.mc_kind
 have y1:=hX.mc_src
 have y2:=hX.mc_dst
 have hv3:=own_b3 w2 w.heap.size m.kind m.src m.dst hm.kind hm.src hm.dst hb.size
 have hq3:Below w2.heap.size w2 (w2.alloc (.cells #[.int .u8 (m.kind:Int),.int .u8 (m.src:Int),.int .u8 (m.dst:Int)] 5)):=(Below.refl _ _).alloc (Nat.le_refl _) _
 have y3:=(hX.later hq3).mc_epoch
 go_wp2_with fail
 refine (xcs w.heap.size _ _ m.epoch _ hv3 hm.epoch (by simp [xal])).mono ?_
 rintro en w4x ⟨v4,rfl,hv4,ow4⟩
 have oB:OffB w.heap.size w w4x:=(OffB.of (hb.trans (hq3.mono hb.size)) (Nat.le_refl _)).trans ow4
 replace hX:=ow4.keep _ _ _ (hX.later hq3) xbk
 clear y0 y1 y2 y3 hv3 hq3 ow4 hb
 have x0:=hX.mc_kind
 rw [hkE.out] at x0
 have n1:True:=trivial
 rcases hkk.out with rfl | rfl
 ·obtain ⟨w4,hw4⟩:∃ W,W = w4x:=⟨_,rfl⟩
  subst hw4
  replace hkE:=hkE.out
  clear hkk n1
  have gO:OpG m.op:=hG.out.op (by rw [hkE];rfl)
  have hB:Hid (msgB m = putB m.kind 1 ++ (putB m.src 1 ++ (putB m.dst 1 ++ (putB m.epoch 4 ++ opB m.op)))):=by show _ = _;unfold msgB;rw [hkE];simp [shapeM,ifB]
  go_wp2_with (first
   | (refine xae (by rfl) 39 _ rfl w.heap.size 123 rfl (opL m.op) _ ?hc Tryz.underlying39 rfl (xca m.op) ?_;(case hc=>exact hX.m_op))
   | fail)
  refine (rop_any w.heap.size v4 _ m.op w4 hv4 gO (by simp [xal];try omega)).mono ?_
  rintro en w5 ⟨v5,rfl,hv5,ow5⟩
  replace oB:=oB.trans ow5
  have hvF:OwnV w5 w.heap.size v5 (msgB m):=by
   have q:=hv5
   rw [hB.out]
   simpa only [List.append_assoc] using q
  obtain ⟨vF,hvf⟩:∃ V,v5 = V:=⟨_,rfl⟩
  have oF:Hid (OffB w.heap.size w w5):=oB
  clear oB hX hB hv4 hv5
  subst hvf
  obtain ⟨g1,k1,rfl,-,hk1⟩:=xbw hvF.1 (by omega)
  have hBy1:=By.own hvF.1 hk1
  go_wp2_with fail
  refine (xdl _ _ _ _ w5 hBy1 rfl).mono ?_
  rintro en ws ⟨rfl,rfl⟩
  go_wp2_with fail
  refine (rputS w.heap.size _ (msgB m) (sumN (msgB m)) 8 _ hvF (xdi _) (by decide) (by decide) (by omega)).mono ?_
  rintro en wf ⟨vf,rfl,hvf,owf⟩
  replace oF:=oF.out.trans owf
  have hsum:msgB m ++ putB (sumN (msgB m)) 8 = sumB (msgB m):=rfl
  rw [hsum] at hvf
  have hlen:=xbz (msgB m)
  obtain ⟨g2,k2,rfl,-,hk2⟩:=xbw hvf.1 (by omega)
  have hBy2:=By.own hvf.1 hk2
  have hnot:¬ (2000:Int) < ((sumB (msgB m)).length:Int):=by omega
  have hfin:Hid (∃ g c,(Ending.returned (.tuple #[.slice (some ⟨g2,0,none⟩) (sumB (msgB m)).length k2,.int .i64 0]):Ending) = .returned (.tuple #[.slice (some ⟨g,0,none⟩) (sumB (msgB m)).length c,.int .i64 0]) ∧ wf.ownsRow w.heap.size 5 1 (.slice (some ⟨g,0,none⟩) (sumB (msgB m)).length c) (sumB (msgB m)).length (Bs (sumB (msgB m))) ∧ By wf (some ⟨g,0,none⟩) c (sumB (msgB m)) ∧ Below w.heap.size w wf):=⟨g2,k2,rfl,hvf.1,hBy2,oF.below⟩
  clear hvf hBy2 oF hBy1 hvF hsum hlen owf
  go_wp2
  go_ret2
  exact hfin.out
 ·replace hkE:=hkE.out
  clear hkk n1
  have gO:OpG m.op:=hG.out.op (by rw [hkE];rfl)
  have hoL:=opB_len gO
  have gR:m.r.data.length ≤ 80:=(hG.out.r (by rw [hkE];rfl)).len
  have hB:Hid (msgB m = putB m.kind 1 ++ (putB m.src 1 ++ (putB m.dst 1 ++ (putB m.epoch 4 ++ (opB m.op ++ (putB m.r.code 1 ++ textB m.r.data)))))):=by show _ = _;unfold msgB;rw [hkE];simp [shapeM,ifB,resB]
  go_wp2_with fail
  refine xas (fun W=>Has W w.heap.size 48 (msgC m a1 c1 a2 c2 a3 c3)) (Plan.of [(0,true),(1,true),(2,true),(4,true),(5,true),(6,true),(8,true),(9,true),(10,true),(3,false),(7,false),(11,false),(12,true)] .done) (by kernel_rfl) (by kernel_rfl) (by kernel_rfl) (by kernel_rfl) hX.drew ?_
  replace hX:=hX.drew
  replace hv4:=hv4.drew
  replace oB:OffB w.heap.size w _:=oB.trans (OffB.of (Below.refl _ _).drew hv4.2.1)
  generalize w4x.drew = w4 at *
  iterate 2
   first
    | (refine xad _ rfl (by rfl) ?_)
    | (refine xaa _ _ rfl (.inl ⟨by rfl,fun W hS=>by clear hS;go_simp;try with_reducible rfl⟩) ?_)
   try simp only [qp,qa,qb,qc]
  refine xaa _ (.agg (opC m.op)) rfl (xaj (by rfl) 39 _ rfl w.heap.size 123 rfl (opL m.op) _ Tryz.underlying39 rfl (xca m.op) (fun W hS=>hS.m_op)) ?_
  try simp only [qp,qa,qb,qc]
  iterate 2
   first
    | (refine xad _ rfl (by rfl) ?_)
    | (refine xaa _ _ rfl (.inl ⟨by rfl,fun W hS=>by clear hS;go_simp;try with_reducible rfl⟩) ?_)
   try simp only [qp,qa,qb,qc]
  iterate 1
   first
    | (refine xad _ rfl (by rfl) ?_)
    | (refine xaa _ _ rfl (.inl ⟨by rfl,fun W hS=>by have z:=hS.mc_rcode;go_simp;try with_reducible rfl⟩) ?_)
   try simp only [qp,qa,qb,qc]
  iterate 2
   first
    | (refine xad _ rfl (by rfl) ?_)
    | (refine xaa _ _ rfl (.inl ⟨by rfl,fun W hS=>by clear hS;go_simp;try with_reducible rfl⟩) ?_)
   try simp only [qp,qa,qb,qc]
  iterate 1
   first
    | (refine xad _ rfl (by rfl) ?_)
    | (refine xaa _ _ rfl (.inl ⟨by rfl,fun W hS=>by have z:=hS.mc_rstr;go_simp;try with_reducible rfl⟩) ?_)
   try simp only [qp,qa,qb,qc]
  refine xam _ rfl (fun K hK=>?_)
  go_simp
  refine (rop_any w.heap.size v4 _ m.op w4 hv4 gO (by simp [xal];try omega)).mono ?_
  rintro en w5 ⟨v5,rfl,hv5,ow5⟩
  refine hK.out _ _ (ow5.keep _ _ _ hX xbk) ?_
  clear hK K
  try simp only [qp,qa,qb,qc]
  replace hX:=ow5.keep _ _ _ hX xbk
  replace oB:=oB.trans ow5
  refine xam _ rfl (fun K hK=>?_)
  go_simp
  refine (xcw w.heap.size v5 _ m.r.code w5 hv5 hm.r.code (by simp [xal];omega)).mono ?_
  rintro en w6 ⟨v6,rfl,hv6,ow6⟩
  refine hK.out _ _ (ow6.keep _ _ _ hX xbk) ?_
  clear hK K
  try simp only [qp,qa,qb,qc]
  replace hX:=ow6.keep _ _ _ hX xbk
  replace oB:=oB.trans ow6
  refine xam _ rfl (fun K hK=>?_)
  go_simp
  refine (rtext_any w.heap.size v6 _ m.r.data w6 hv6 gR (by simp [xal];omega)).mono ?_
  rintro en w7 ⟨v7,rfl,hv7,ow7⟩
  refine hK.out _ _ (ow7.keep _ _ _ hX xbk) ?_
  clear hK K
  try simp only [qp,qa,qb,qc]
  replace hX:=ow7.keep _ _ _ hX xbk
  replace oB:=oB.trans ow7
  iterate 1
   first
    | (refine xad _ rfl (by rfl) ?_)
    | (refine xaa _ _ rfl (.inl ⟨by rfl,fun W hS=>by clear hS;go_simp;try with_reducible rfl⟩) ?_)
   try simp only [qp,qa,qb,qc]
  refine xbf ?_
  have hvF:OwnV w7 w.heap.size v7 (msgB m):=by
   have q:=hv7
   rw [hB.out]
   simpa only [List.append_assoc] using q
  obtain ⟨vF,hvf⟩:∃ V,v7 = V:=⟨_,rfl⟩
  have oF:Hid (OffB w.heap.size w w7):=oB
  clear oB hX hB hv4 hv5 hv6 hv7
  subst hvf
  obtain ⟨g1,k1,rfl,-,hk1⟩:=xbw hvF.1 (by omega)
  have hBy1:=By.own hvF.1 hk1
  go_wp2_with fail
  refine (xdl _ _ _ _ w7 hBy1 rfl).mono ?_
  rintro en ws ⟨rfl,rfl⟩
  go_wp2_with fail
  refine (rputS w.heap.size _ (msgB m) (sumN (msgB m)) 8 _ hvF (xdi _) (by decide) (by decide) (by omega)).mono ?_
  rintro en wf ⟨vf,rfl,hvf,owf⟩
  replace oF:=oF.out.trans owf
  have hsum:msgB m ++ putB (sumN (msgB m)) 8 = sumB (msgB m):=rfl
  rw [hsum] at hvf
  have hlen:=xbz (msgB m)
  obtain ⟨g2,k2,rfl,-,hk2⟩:=xbw hvf.1 (by omega)
  have hBy2:=By.own hvf.1 hk2
  have hnot:¬ (2000:Int) < ((sumB (msgB m)).length:Int):=by omega
  have hfin:Hid (∃ g c,(Ending.returned (.tuple #[.slice (some ⟨g2,0,none⟩) (sumB (msgB m)).length k2,.int .i64 0]):Ending) = .returned (.tuple #[.slice (some ⟨g,0,none⟩) (sumB (msgB m)).length c,.int .i64 0]) ∧ wf.ownsRow w.heap.size 5 1 (.slice (some ⟨g,0,none⟩) (sumB (msgB m)).length c) (sumB (msgB m)).length (Bs (sumB (msgB m))) ∧ By wf (some ⟨g,0,none⟩) c (sumB (msgB m)) ∧ Below w.heap.size w wf):=⟨g2,k2,rfl,hvf.1,hBy2,oF.below⟩
  clear hvf hBy2 oF hBy1 hvF hsum hlen owf
  go_wp2
  go_ret2
  exact hfin.out

theorem isMsg_kind {m:MsgV} (hi:isMsg m = true):1 ≤ m.kind ∧ m.kind ≤ 18:=by
 obtain ⟨h,_,_⟩:=xch.1 hi
 refine Classical.byContradiction fun hk=>?_
 have hs:shapeM m.kind = sh0:=by
  unfold shapeM
  split <;> first | omega | rfl
 rw [hs] at h
 unfold goesM at h
 simp [sh0] at h
theorem denc_yes (m:MsgV) (a1 a2 a3:Option Addr) (c1 c2 c3:Nat) (w:World) (hm:MsgOk m) (sm:MsgSl w m a1 c1 a2 c2 a3 c3) (hi:isMsg m = true):Calls Tryz.prog 12 #[.agg (msgC m a1 c1 a2 c2 a3 c3)] w (EncR w m):=by
 have hk:=isMsg_kind hi
 have h:(m.kind = 1 ∨ m.kind = 4 ∨ m.kind = 18) ∨ (m.kind = 2 ∨ m.kind = 3) ∨ (m.kind = 5 ∨ m.kind = 6 ∨ m.kind = 7 ∨ m.kind = 17) ∨ (m.kind = 8 ∨ m.kind = 9) ∨ (m.kind = 10 ∨ m.kind = 12 ∨ m.kind = 11) ∨ (m.kind = 13 ∨ m.kind = 14) ∨ (m.kind = 15 ∨ m.kind = 16):=by omega
 rcases h with h | h | h | h | h | h | h
 ·exact denc_A m a1 a2 a3 c1 c2 c3 w hm h sm hi
 ·exact denc_B m a1 a2 a3 c1 c2 c3 w hm h sm hi
 ·exact denc_C m a1 a2 a3 c1 c2 c3 w hm h sm hi
 ·exact denc_D m a1 a2 a3 c1 c2 c3 w hm h sm hi
 ·exact denc_E m a1 a2 a3 c1 c2 c3 w hm h sm hi
 ·exact denc_F m a1 a2 a3 c1 c2 c3 w hm h sm hi
 ·exact denc_G m a1 a2 a3 c1 c2 c3 w hm h sm hi
end Go.Proofs.YtecilienolabfaaGreatDoor
