/- Whatever bytes: the program tells what the document tells: WireReads. -/
import Derived.Test.YtecilienolabfaaGreatDoorWireKnown
import Derived.Test.YtecilienolabfaaGreatDoorRefBodies
import Derived.Test.YtecilienolabfaaGreatDoorDocSame
import Derived.Test.YtecilienolabfaaGreatDoorOpenBytes
namespace Go.Proofs.YtecilienolabfaaGreatDoor
set_option linter.unusedSimpArgs false
set_option linter.unusedVariables false
set_option maxRecDepth 100000
open Go.RowKit
theorem doc_both (b:List UInt8):(decM b).1 = (docD b).1 ∧ MsgOk (decM b).1 ∧ (((decM b).2 = 0 ∧ (docD b).2 = true) ∨ ((decM b).2 ≠ 0 ∧ (docD b).2 = false)):=by
 rcases dec_doc b with ⟨m,h1,h2,h3⟩ | ⟨n,h1,h2,h3⟩
 ·have e:docD b = (m,true):=by unfold docD;rw [h2]
  rw [h1,e]
  exact ⟨rfl,h3,.inl ⟨rfl,rfl⟩⟩
 ·have e:docD b = (msg0,false):=by unfold docD;rw [h3]
  rw [h1,e]
  exact ⟨rfl,xdb,.inr ⟨h2,rfl⟩⟩
set_option maxHeartbeats 40000000 in
theorem reads_walk (ra:List UInt8) (a3:Option Addr) (c3:Nat) (w:World) (b3:By w a3 c3 ra) (t3:∀ ad,a3 = some ad → ad.block < w.heap.size) (hL:Laid w) :
  Calls Tryz.prog 4 #[.slice a3 ra.length c3] w fun e w'=>e = .returned (.bool true) ∧ Below w.heap.size w w':=by
 have hk:=wknown_any w hL
 replace hk:Hid _:=hk
 have hle3:=b3.le
 have hcap3:=b3.cap
 obtain ⟨lr,hlr⟩:∃ n,ra.length = n:=⟨_,rfl⟩
 rw [hlr] at hle3 ⊢
 replace hlr:Hid _:=hlr
 go_enter Tryz.func4,Tryz.ntmps4
 go_wp2_with fail
 refine Calls.mono hk.out ?_
 rintro e w1 ⟨rfl,hb1⟩
 clear hk
 by_cases k3:2100 < lr
 ·have k3I:(2100:Int) < (lr:Int):=by omega
  go_wp2
  go_ret
  exact ⟨rfl,hb1⟩
 have n3:¬ (2100:Int) < (lr:Int):=by omega
 have hBr:=b3.later hb1
 go_wp2_with (first
  | (refine wpList_copy _ rfl _ _ rfl w1.heap.size a3 lr c3 ra rfl rfl hBr hlr.out.symm (by omega) (Nat.le_refl _) ?_)
  | fail)
 intro A7 C7 w7 ho7 hB7 hq
 have hfar7:=own_far ho7 rfl
 have hb7:=hb1.trans (hq.mono hb1.size)
 clear hq hb1 hBr ho7
 have hget:=wdecode_any A7 lr C7 ra w7 hB7 hlr.out.symm (fun ad had=>(hfar7 ad had).2) (hL.next hb7)
 obtain ⟨q1,q2,q3⟩:=doc_both ra
 obtain ⟨m,hm⟩:∃ m,(decM ra).1 = m:=⟨_,rfl⟩
 obtain ⟨ke,hke⟩:∃ m,(decM ra).2 = m:=⟨_,rfl⟩
 obtain ⟨ok,hok⟩:∃ m,(docD ra).2 = m:=⟨_,rfl⟩
 rw [hm,hke] at hget
 rw [hm] at q1 q2
 rw [hke,hok] at q3
 replace hget:Hid _:=hget
 clear hB7 hfar7
 go_wp2_with fail
 refine Calls.mono hget.out ?_
 rintro e w8 ⟨hq,g1,u1,g2,u2,g3,u3,rfl,sm⟩
 clear hget
 have hb8:=hb7.trans (hq.mono hb7.size)
 clear hq hb7
 obtain ⟨w9,hw9,hV,hq⟩:=xcm w8 48 (msgC msg0 none 0 none 0 none 0) (msgC m g1 u1 g2 u2 g3 u3)
 replace sm:=sm.later hq
 have hb9:=hb8.trans (hq.mono hb8.size)
 clear hq hb8
 have hrg:=rdec_any a3 c3 ra w9 (b3.later hb9) (fun ad had=>Nat.lt_of_lt_of_le (t3 ad had) hb9.size) (by have:=hlr.out;omega)
 unfold DecR at hrg
 rw [hlr.out,← q1,hok] at hrg
 replace hrg:Hid _:=hrg
 clear hm hke hok q1
 go_wp2_with (first
  | (refine xac (by rfl) 48 rfl (msgC msg0 none 0 none 0 none 0) xbg ?_)
  | (refine xai (by rfl) 48 _ _ rfl w8.heap.size rfl (msgC m g1 u1 g2 u2 g3 u3) rfl 48 (msgC msg0 none 0 none 0 none 0) (xah _ _ _ _ _ _ _) (xbe _ _ _ _ _ _ _ _ _ _ _ _ _ _) (xbn _ _ _ _ _ _ _) ?hg w9 ?hW ?_;(case hg=>exact Has.new _ _ _);(case hW=>exact hw9);clear hw9)
  | fail)
 refine Calls.mono hrg.out ?_
 rintro e w10 ⟨hq,h1,v1,h2,v2,h3,v3,rfl,sn⟩
 clear hrg
 replace hV:=hV.later hq
 replace sm:=sm.later hq
 have hb10:=hb9.trans (hq.mono hb9.size)
 clear hq hb9
 obtain ⟨w11,hw11,hU,hq⟩:=xcm w10 48 (msgC msg0 none 0 none 0 none 0) (msgC m h1 v1 h2 v2 h3 v3)
 replace hV:=hV.later hq
 replace sm:=sm.later hq
 replace sn:=sn.later hq
 have hb11:=hb10.trans (hq.mono hb10.size)
 clear hq hb10
 have hsm:=dsame_any m m g1 g2 g3 h1 h2 h3 u1 u2 u3 v1 v2 v3 w11 q2 q2 sm sn
 rw [show xej m m = true from (sameMsg_is m m).2 rfl] at hsm
 replace hsm:Hid _:=hsm
 clear sm sn q2
 rcases q3 with ⟨rfl,rfl⟩ | ⟨n5,rfl⟩
 ·go_wp2_with (first
   | (refine xac (by rfl) 48 rfl (msgC msg0 none 0 none 0 none 0) xbg ?_)
   | (refine xai (by rfl) 48 _ _ rfl w10.heap.size rfl (msgC m h1 v1 h2 v2 h3 v3) rfl 48 (msgC msg0 none 0 none 0 none 0) (xah _ _ _ _ _ _ _) (xbe _ _ _ _ _ _ _ _ _ _ _ _ _ _) (xbn _ _ _ _ _ _ _) ?hg w11 ?hW ?_;(case hg=>exact Has.new _ _ _);(case hW=>exact hw11);clear hw11)
   | ((with_reducible refine at_loa ?_);first
    | (refine xab (by rfl) 48 _ rfl w8.heap.size rfl 48 (msgC m g1 u1 g2 u2 g3 u3) _ Tryz.underlying48 rfl (xah _ _ _ _ _ _ _) ?hg ?_;(case hg=>exact hV))
    | (refine xab (by rfl) 48 _ rfl w10.heap.size rfl 48 (msgC m h1 v1 h2 v2 h3 v3) _ Tryz.underlying48 rfl (xah _ _ _ _ _ _ _) ?hg ?_;(case hg=>exact hU)))
   | fail)
  refine Calls.mono hsm.out ?_
  rintro e w12 ⟨rfl,hq⟩
  clear hsm hV hU
  have hb12:=hb11.trans (hq.mono hb11.size)
  go_wp2
  go_ret
  exact ⟨rfl,hb12⟩
 ·have n51:¬ (ke:Int) = 0:=by omega
  have n52:((ke:Int) == 0) = false:=by simp;omega
  clear n5
  go_wp2_with (first
   | (refine xac (by rfl) 48 rfl (msgC msg0 none 0 none 0 none 0) xbg ?_)
   | (refine xai (by rfl) 48 _ _ rfl w10.heap.size rfl (msgC m h1 v1 h2 v2 h3 v3) rfl 48 (msgC msg0 none 0 none 0 none 0) (xah _ _ _ _ _ _ _) (xbe _ _ _ _ _ _ _ _ _ _ _ _ _ _) (xbn _ _ _ _ _ _ _) ?hg w11 ?hW ?_;(case hg=>exact Has.new _ _ _);(case hW=>exact hw11);clear hw11)
   | ((with_reducible refine at_loa ?_);first
    | (refine xab (by rfl) 48 _ rfl w8.heap.size rfl 48 (msgC m g1 u1 g2 u2 g3 u3) _ Tryz.underlying48 rfl (xah _ _ _ _ _ _ _) ?hg ?_;(case hg=>exact hV))
    | (refine xab (by rfl) 48 _ rfl w10.heap.size rfl 48 (msgC m h1 v1 h2 v2 h3 v3) _ Tryz.underlying48 rfl (xah _ _ _ _ _ _ _) ?hg ?_;(case hg=>exact hU)))
   | fail)
  refine Calls.mono hsm.out ?_
  rintro e w12 ⟨rfl,hq⟩
  clear hsm hV hU
  have hb12:=hb11.trans (hq.mono hb11.size)
  go_wp2
  go_ret
  exact ⟨rfl,hb12⟩
end Go.Proofs.YtecilienolabfaaGreatDoor
