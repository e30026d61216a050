/- The laws' known message. -/
import Derived.Test.YtecilienolabfaaGreatDoorPackRead
import Derived.Test.YtecilienolabfaaGreatDoorWireEnc
namespace Go.Proofs.YtecilienolabfaaGreatDoor
set_option linter.unusedSimpArgs false
set_option linter.unusedVariables false
set_option maxRecDepth 100000
open Go.RowKit
def mK:MsgV:=⟨6,10,0,3,bal0,bal0,false,inc0,0,st0,diff0,ent0,0,op0,res0⟩
theorem mK_ok:MsgOk mK:=⟨by show 6 < _;decide,by show 10 < _;decide,by show 0 < _;decide,by show 3 < _;decide,xhn,xhn,inc0_ok,by show 0 < _;decide,st0_fit,diff0_fit,ent0_G.ok,by show 0 < _;decide,op0_ok,⟨by show 0 < _;decide,by show 0 ≤ _;decide⟩⟩
theorem mK_is:isMsg mK = true:=by kernel_rfl
theorem mK_len:(sumB (msgB mK)).length = 15:=by kernel_rfl
theorem m0_no:isMsg msg0 = false:=by kernel_rfl
theorem dec1:decM [1] = (msg0,11):=by kernel_rfl
theorem mK_built:Tryz.prog.built 48 [(0,.int .u8 6),(1,.int .u8 10),(2,.int .u8 0),(3,.int .u32 3)] = some (msgC mK none 0 none 0 none 0):=by kernel_rfl
theorem sl_none (w:World) (m:MsgV) (h1:m.st.log = []) (h2:m.diff.log = []) (h3:m.diff.whole.log = []):MsgSl w m none 0 none 0 none 0:=by
 refine ⟨?_,?_,?_⟩
 ·rw [h1];exact Sl.nothing _ _
 ·rw [h2];exact Sl.nothing _ _
 ·rw [h3];exact Sl.nothing _ _
theorem byte1 (w:World):By (w.alloc (.cells #[.int .u8 1] 5)) (some ⟨w.heap.size,0,none⟩) 1 [1]:=by
 have h:=Has.new w 5 #[.int .u8 1]
 refine ⟨Nat.le_refl _,by decide,(fun h=>by cases h),fun ad had j u hu=>?_⟩
 obtain rfl:=Option.some.inj had
 have hj:j < 1:=(List.getElem?_eq_some_iff.1 hu).1
 have:j = 0:=by omega
 subst this
 have e:=h.cell 0
 rw [show ((⟨w.heap.size,0,none⟩:Addr).add 0) = ⟨w.heap.size,0,none⟩ from rfl,e]
 exact hu
set_option maxHeartbeats 8000000 in
theorem wknown_any (w:World) (hL:Laid w):Calls Tryz.prog 9 #[] w fun e w'=>e = .returned (.bool true) ∧ Below w.heap.size w w':=by
 obtain ⟨w1,hw1,hX,hb1⟩:=xcm w 48 (msgC msg0 none 0 none 0 none 0) (msgC mK none 0 none 0 none 0)
 have hE:=wencode_yes mK none none none 0 0 0 w1 mK_ok (sl_none _ _ rfl rfl rfl) mK_is
 rw [mK_len] at hE
 replace hE:Hid _:=hE
 go_enter Tryz.func9,Tryz.ntmps9
 go_wp2_with (first
  | (refine xbi (by rfl) 48 [(0,.const (.int .u8 6)),(1,.const (.int .u8 10)),(2,.const (.int .u8 0)),(3,.const (.int .u32 3))] rfl _ rfl (msgC mK none 0 none 0 none 0) mK_built ?_)
  | (refine xac (by rfl) 48 rfl (msgC msg0 none 0 none 0 none 0) xbg ?_)
  | (refine xai (by rfl) 48 _ _ rfl w.heap.size rfl (msgC mK none 0 none 0 none 0) rfl 48 (msgC msg0 none 0 none 0 none 0) (xah mK none none none 0 0 0) (xbe _ _ _ _ _ _ _ _ _ _ _ _ _ _) (xbn mK none none none 0 0 0) ?hg w1 ?hW ?_;(case hg=>exact Has.new _ _ _);(case hW=>exact hw1);clear hw1)
  | (refine xab (by rfl) 48 _ rfl w.heap.size rfl 48 (msgC mK none 0 none 0 none 0) _ Tryz.underlying48 rfl (xah mK none none none 0 0 0) ?hg ?_;(case hg=>exact hX))
  | fail)
 refine Calls.mono hE.out ?_
 rintro e w2 ⟨g2,c2,rfl,ho2,hB2,hq2⟩
 clear hE
 have hb2:=hb1.trans (hq2.mono hb1.size)
 replace hX:=hX.later hq2
 have hlt2:∀ ad:Addr,some (⟨g2,0,none⟩:Addr) = some ad → ad.block < w2.heap.size:=fun ad had=>by obtain rfl:=Option.some.inj had;exact (ho2.lt g2 rfl).2
 have hL2:=hL.next hb2
 have hD:=wdecode_any (some ⟨g2,0,none⟩) 15 c2 (sumB (msgB mK)) w2 hB2 mK_len.symm hlt2 hL2
 rw [dec_back mK_ok mK_is] at hD
 replace hD:Hid _:=hD
 clear ho2 hlt2 hq2
 have hcap2:=hB2.cap
 have hle2:15 ≤ c2:=by have:=hB2.le;rw [mK_len] at this;exact this
 clear hB2
 go_wp2_with fail
 refine Calls.mono hD.out ?_
 rintro e w3 ⟨hq3,b1,d1,b2,d2,b3,d3,rfl,sm3⟩
 clear hD
 replace hX:=hX.later hq3
 have hb3:=hb2.trans (hq3.mono hb2.size)
 obtain ⟨w4,hw4,hV,hq4⟩:=xcm w3 48 (msgC msg0 none 0 none 0 none 0) (msgC mK b1 d1 b2 d2 b3 d3)
 replace hX:=hX.later hq4
 have hb4:=hb3.trans (hq4.mono hb3.size)
 have sm4:=sm3.later hq4
 clear hq3 hq4 sm3 hb2 hb1 hL2
 go_wp2_with (first
  | (refine xac (by rfl) 48 rfl (msgC msg0 none 0 none 0 none 0) xbg ?_)
  | (refine xai (by rfl) 48 _ _ rfl w3.heap.size rfl (msgC mK b1 d1 b2 d2 b3 d3) rfl 48 (msgC msg0 none 0 none 0 none 0) (xah mK b1 b2 b3 d1 d2 d3) (xbe _ _ _ _ _ _ _ _ _ _ _ _ _ _) (xbn mK b1 b2 b3 d1 d2 d3) ?hg w4 ?hW ?_;(case hg=>exact Has.new _ _ _);(case hW=>exact hw4);clear hw4)
  | fail)
 have hq5:Below w4.heap.size w4 (w4.alloc (.cells #[.int .u8 1] 5)):=(Below.refl _ _).alloc (Nat.le_refl _) _
 have hb5:=hb4.trans (hq5.mono hb4.size)
 have hD:=wdecode_any (some ⟨w4.heap.size,0,none⟩) 1 1 [1] _ (byte1 w4) rfl (fun ad had=>by obtain rfl:=Option.some.inj had;simp) (hL.next hb5)
 rw [dec1] at hD
 refine hD.mono ?_
 rintro e w6 ⟨hq6,f1,g1,f2,g2',f3,g3,rfl,sm6⟩
 clear hD sm6
 replace hX:=(hX.later hq5).later hq6
 replace hV:=(hV.later hq5).later hq6
 have hb6:=hb5.trans (hq6.mono hb5.size)
 have sm7:=(sm4.later hq5).later hq6
 obtain ⟨w7,hw7,hU,hq7⟩:=xcm w6 48 (msgC msg0 none 0 none 0 none 0) (msgC msg0 f1 g1 f2 g2' f3 g3)
 replace hX:=hX.later hq7
 replace hV:=hV.later hq7
 replace sm7:=sm7.later hq7
 have hb7:=hb6.trans (hq7.mono hb6.size)
 clear hq5 hq6 hq7 hb5 hb4 hb3 sm4 hU
 go_wp2_with (first
  | (refine xbi (by rfl) 48 [] rfl [] rfl (msgC msg0 none 0 none 0 none 0) xfi ?_)
  | (refine xac (by rfl) 48 rfl (msgC msg0 none 0 none 0 none 0) xbg ?_)
  | (refine xai (by rfl) 48 _ _ rfl w6.heap.size rfl (msgC msg0 f1 g1 f2 g2' f3 g3) rfl 48 (msgC msg0 none 0 none 0 none 0) (xah msg0 f1 f2 f3 g1 g2' g3) (xbe _ _ _ _ _ _ _ _ _ _ _ _ _ _) (xbn msg0 f1 f2 f3 g1 g2' g3) ?hg w7 ?hW ?_;(case hg=>exact Has.new _ _ _);(case hW=>exact hw7);clear hw7)
  | fail)
 refine (wencode_no msg0 none none none 0 0 0 w7 msg0_ok (sl_none _ _ rfl rfl rfl) m0_no).mono ?_
 rintro e w8 ⟨rfl,hq8⟩
 replace hX:=hX.later hq8
 replace hV:=hV.later hq8
 replace sm7:=sm7.later hq8
 have hb8:=hb7.trans (hq8.mono hb7.size)
 clear hq8 hb7 hb6
 go_wp2_with (first
  | (refine xab (by rfl) 48 _ rfl w.heap.size rfl 48 (msgC mK none 0 none 0 none 0) _ Tryz.underlying48 rfl (xah mK none none none 0 0 0) ?hg ?_;(case hg=>exact hX))
  | (refine xab (by rfl) 48 _ rfl w3.heap.size rfl 48 (msgC mK b1 d1 b2 d2 b3 d3) _ Tryz.underlying48 rfl (xah mK b1 b2 b3 d1 d2 d3) ?hg ?_;(case hg=>exact hV))
  | fail)
 refine (wsame_any mK mK none none none b1 b2 b3 0 0 0 d1 d2 d3 _ mK_ok mK_ok (sl_none _ _ rfl rfl rfl) sm7).mono ?_
 rintro e w9 ⟨rfl,hq9⟩
 rw [(sameMsg_is mK mK).2 rfl]
 replace hX:=hX.later hq9
 have hb9:=hb8.trans (hq9.mono hb8.size)
 clear hq9 hb8 hV sm7
 go_wp2_with (first
  | (refine xab (by rfl) 48 _ rfl w.heap.size rfl 48 (msgC mK none 0 none 0 none 0) _ Tryz.underlying48 rfl (xah mK none none none 0 0 0) ?hg ?_;(case hg=>exact hX))
  | fail)
 refine (wis_any mK none none none 0 0 0 _ mK_ok (sl_none _ _ rfl rfl rfl)).mono ?_
 rintro e w10 ⟨rfl,hq10⟩
 rw [mK_is]
 have hb10:=hb9.trans (hq10.mono hb9.size)
 clear hq10 hb9
 go_wp2
 go_ret
 exact ⟨rfl,hb10⟩
end Go.Proofs.YtecilienolabfaaGreatDoor
