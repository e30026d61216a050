/- Who gets, as a coder. Written by tools/igen.py. -/
import Derived.Test.YtecilienolabfaaGreatDoorPackCode
import Derived.Test.YtecilienolabfaaGreatDoorWalkMsg
namespace Go.Proofs.YtecilienolabfaaGreatDoor
set_option linter.unusedSimpArgs false
set_option linter.unusedVariables false
set_option maxRecDepth 100000
open Go.RowKit
def getV (p:Nat):Value:=.iface 121 (.pointer (some ⟨p,0,none⟩))
theorem get_box (p:Nat) (X:Nat → Prop) (w:World) (s:List UInt8) (F:Nat → Prop) (h:(GetI p X) w s F) (o:Obj):(GetI p X) (w.alloc o) s F ∧ Stp F F w (w.alloc o) :=
 ⟨get_kept p X _ _ _ _ h (by simp) (fun k hk _=>Below.heap_alloc _ _ _ hk),Stp.of ((Below.refl _ _).alloc (Nat.le_refl _) _)⟩
set_option maxHeartbeats 1000000 in
theorem get_one (p:Nat) (X:Nat → Prop) (w:World) (s:List UInt8) (F:Nat → Prop) (n:Nat) (hI:(GetI p X) w s F) (hn:n < 256) (hne:Bare False (oneM GetC n s)):Calls Tryz.prog 66 #[.agg #[getV p],.int .u8 (n:Nat)] w (Ends (GetI p X) F w (oneM GetC n s) fun m=>.int .u8 (m:Nat)):=by
 have hM:Hid (oneM GetC n s = (GetC.num n 1).bind (fun m=>.ret (m % 256)) s):=rfl
 have hm:∀ W,(Go.method 333 121 (.pointer (some ⟨p,0,none⟩)) "paddock/wire.number").run Tryz.prog W = .ok (122,.pointer (some ⟨p,0,none⟩)) W:=fun _=>by kernel_rfl
 obtain ⟨hI1,hs1⟩:=get_box p X w s F hI (.cells #[getV p] 82)
 have hnum:=xhj p X n 1 _ s F hI1 (by omega) (by decide) (hne.here hM.out)
 replace hnum:Hid _:=hnum
 have hs1':Hid _:=hs1
 clear hI hI1 hs1 hne
 unfold getV at hnum hs1' ⊢
 go_enter Tryz.func66,Tryz.ntmps66
 go_wp2_with fail
 refine Calls.mono hnum.out ?_
 intro e w1 h1
 clear hnum
 rcases h1.split with ⟨q,hr,rfl,G,hs⟩ | ⟨y,s2,F2,hr,rfl,hI2,hs2⟩
 ·have hE:Hid _:=hM.out.trans (xau hr)
  replace hs:Hid _:=hs
  clear h1 hM hr
  unfold thrown
  go_wp2
  exact ⟨rfl,xck hE.out rfl ⟨_,hs1'.out.trans hs.out⟩⟩
 ·have hE:Hid _:=hM.out.trans (xag hr)
  have hy:=get_big hr (by omega)
  replace hI2:Hid _:=hI2
  replace hs2:Hid _:=hs2
  clear h1 hM hr
  go_wp2
  go_ret
  exact xda hE.out (by first | rfl | (show Ending.returned (Value.int .u8 (IntKind.u8.wrap ((y:Nat):Int))) = _;rw [IntKind.wrap_u8];first | rfl | (congr 2;omega))) hI2.out (hs1'.out.trans hs2.out)
set_option maxHeartbeats 1000000 in
theorem get_four (p:Nat) (X:Nat → Prop) (w:World) (s:List UInt8) (F:Nat → Prop) (n:Nat) (hI:(GetI p X) w s F) (hn:n < 4294967296) (hne:Bare False (fourM GetC n s)):Calls Tryz.prog 67 #[.agg #[getV p],.int .u32 (n:Nat)] w (Ends (GetI p X) F w (fourM GetC n s) fun m=>.int .u32 (m:Nat)):=by
 have hM:Hid (fourM GetC n s = (GetC.num n 4).bind (fun m=>.ret (m % 4294967296)) s):=rfl
 have hm:∀ W,(Go.method 333 121 (.pointer (some ⟨p,0,none⟩)) "paddock/wire.number").run Tryz.prog W = .ok (122,.pointer (some ⟨p,0,none⟩)) W:=fun _=>by kernel_rfl
 obtain ⟨hI1,hs1⟩:=get_box p X w s F hI (.cells #[getV p] 82)
 have hnum:=xhj p X n 4 _ s F hI1 (by omega) (by decide) (hne.here hM.out)
 replace hnum:Hid _:=hnum
 have hs1':Hid _:=hs1
 clear hI hI1 hs1 hne
 unfold getV at hnum hs1' ⊢
 go_enter Tryz.func67,Tryz.ntmps67
 go_wp2_with fail
 refine Calls.mono hnum.out ?_
 intro e w1 h1
 clear hnum
 rcases h1.split with ⟨q,hr,rfl,G,hs⟩ | ⟨y,s2,F2,hr,rfl,hI2,hs2⟩
 ·have hE:Hid _:=hM.out.trans (xau hr)
  replace hs:Hid _:=hs
  clear h1 hM hr
  unfold thrown
  go_wp2
  exact ⟨rfl,xck hE.out rfl ⟨_,hs1'.out.trans hs.out⟩⟩
 ·have hE:Hid _:=hM.out.trans (xag hr)
  have hy:=get_big hr (by omega)
  replace hI2:Hid _:=hI2
  replace hs2:Hid _:=hs2
  clear h1 hM hr
  go_wp2
  go_ret
  exact xda hE.out (by first | rfl | (show Ending.returned (Value.int .u32 (IntKind.u32.wrap ((y:Nat):Int))) = _;rw [IntKind.wrap_u32];first | rfl | (congr 2;omega))) hI2.out (hs1'.out.trans hs2.out)
set_option maxHeartbeats 1000000 in
theorem get_small (p:Nat) (X:Nat → Prop) (w:World) (s:List UInt8) (F:Nat → Prop) (n:Int) (hI:(GetI p X) w s F) (h0:-9223372036854775808 ≤ n) (h1:n ≤ 9223372036854775807) (hne:Bare False (smallM GetC n s)):Calls Tryz.prog 105 #[.agg #[getV p],.int .i64 n] w (Ends (GetI p X) F w (smallM GetC n s) fun m=>.int .i64 m):=by
 have hM:Hid (smallM GetC n s = (GetC.num (n % 18446744073709551616).toNat 1).bind (fun m=>.ret (sgn m)) s):=rfl
 have hm:∀ W,(Go.method 333 121 (.pointer (some ⟨p,0,none⟩)) "paddock/wire.number").run Tryz.prog W = .ok (122,.pointer (some ⟨p,0,none⟩)) W:=fun _=>by kernel_rfl
 obtain ⟨hI1,hs1⟩:=get_box p X w s F hI (.cells #[getV p] 82)
 have hnum:=xhj p X (n % 18446744073709551616).toNat 1 _ s F hI1 (by omega) (by decide) (hne.here hM.out)
 replace hnum:Hid _:=hnum
 have hs1':Hid _:=hs1
 clear hI hI1 hs1 hne
 unfold getV at hnum hs1' ⊢
 have hz:IntKind.u64.wrap n = ((n % 18446744073709551616).toNat:Int):=by rw [IntKind.wrap_u64];omega
 have hNl:(n % 18446744073709551616).toNat < 18446744073709551616:=by omega
 generalize (n % 18446744073709551616).toNat = N at *
 go_enter Tryz.func105,Tryz.ntmps105
 go_wp2_with fail
 refine Calls.mono hnum.out ?_
 intro e w1 h1
 clear hnum
 rcases h1.split with ⟨q,hr,rfl,G,hs⟩ | ⟨y,s2,F2,hr,rfl,hI2,hs2⟩
 ·have hE:Hid _:=hM.out.trans (xau hr)
  replace hs:Hid _:=hs
  clear h1 hM hr
  unfold thrown
  go_wp2
  exact ⟨rfl,xck hE.out rfl ⟨_,hs1'.out.trans hs.out⟩⟩
 ·have hE:Hid _:=hM.out.trans (xag hr)
  have hy:=get_big hr (by omega)
  replace hI2:Hid _:=hI2
  replace hs2:Hid _:=hs2
  clear h1 hM hr
  go_wp2
  go_ret
  exact xda hE.out (by first | rfl | (show Ending.returned (Value.int .i64 (wrap64 ((y:Nat):Int))) = _;rw [wrap64_sgn hy])) hI2.out (hs1'.out.trans hs2.out)
set_option maxHeartbeats 1000000 in
theorem get_data (p:Nat) (X:Nat → Prop) (w:World) (s:List UInt8) (F:Nat → Prop) (t:List UInt8) (hI:(GetI p X) w s F) (ht:t.length ≤ 80) (hne:Bare False (dataM GetC t s)):Calls Tryz.prog 106 #[.agg #[getV p],strV t] w (Ends (GetI p X) F w (dataM GetC t s) strV):=by
 have hm:∀ W,(Go.method 333 121 (.pointer (some ⟨p,0,none⟩)) "paddock/wire.text").run Tryz.prog W = .ok (166,.pointer (some ⟨p,0,none⟩)) W:=fun _=>by kernel_rfl
 obtain ⟨hI1,hs1⟩:=get_box p X w s F hI (.cells #[getV p] 82)
 have htxt:=gettxt_ends p X t 16 _ s F hI1 ht (by decide) hne
 replace htxt:Hid _:=htxt
 have hs1':Hid _:=hs1
 clear hI hI1 hs1 hne
 unfold getV at htxt hs1' ⊢
 go_enter Tryz.func106,Tryz.ntmps106
 go_wp2_with fail
 refine Calls.mono htxt.out ?_
 intro e w1 h1
 clear htxt
 rcases h1.split with ⟨q,hr,rfl,G,hs⟩ | ⟨y,s2,F2,hr,rfl,hI2,hs2⟩
 ·have hE:Hid (dataM GetC t s = .error q):=hr
  replace hs:Hid _:=hs
  clear h1 hr
  unfold thrown
  go_wp2
  exact ⟨rfl,xck hE.out rfl ⟨_,hs1'.out.trans hs.out⟩⟩
 ·have hE:Hid (dataM GetC t s = .ok (y,s2)):=hr
  replace hI2:Hid _:=hI2
  replace hs2:Hid _:=hs2
  clear h1 hr
  go_wp2
  go_ret
  exact xda hE.out rfl hI2.out (hs1'.out.trans hs2.out)
theorem get_wb_res (c:Nat) (d:List UInt8):Tryz.prog.built 32 [(0,.int .u8 (c:Int)),(1,strV d)] = some (resC ⟨c,d⟩):=by kernel_rfl
set_option maxHeartbeats 4000000 in
theorem get_res (p:Nat) (X:Nat → Prop) (w:World) (s:List UInt8) (F:Nat → Prop) (x:ResV) (hI:(GetI p X) w s F) (hc:x.code < 256) (hd:x.data.length ≤ 80) (hne:Bare False (resM GetC x s)):Calls Tryz.prog 74 #[.agg #[getV p],.agg (resC x)] w (Ends (GetI p X) F w (resM GetC x s) fun m=>.agg (resC m)):=by
 have hM:Hid (resM GetC x s = ((oneM GetC x.code).bind fun c=>(GetC.txt x.data 80).bind fun d=>.ret ⟨c,d⟩) s):=rfl
 have hm:∀ W,(Go.method 333 121 (.pointer (some ⟨p,0,none⟩)) "paddock/wire.text").run Tryz.prog W = .ok (166,.pointer (some ⟨p,0,none⟩)) W:=fun _=>by kernel_rfl
 have hC:Coder True NilC (getV p) (GetI p X) X:=nil_coder (get_kept p X) (get_lt p X)
 obtain ⟨W,hW,r⟩:=xdr hC hI 82 32 32 #[getV p] (resC x) (resC res0)
 go_enter Tryz.func74,Tryz.ntmps74
 go_wp2_with (first
  | (refine xac (by rfl) 32 rfl (resC res0) res_zero ?_;rw [hW];clear hW;simp only [xgs]))
 have r0:=r.drew hC
 refine xcb (Held (GetI p X) X F w [(w.heap.size,82,#[getV p]),(w.heap.size + 1,32,resC x)]) (Plan.of [(0,true),(1,true),(2,true),(4,true),(5,true),(6,true),(7,true),(3,false),(8,false),(9,true),(10,false)] .done) (Thr F w (resM GetC x s)) (by kernel_rfl) (by kernel_rfl) (by kernel_rfl) (by kernel_rfl) r0.held2 (fun c a' w' h hd=>⟨hd,h.ends⟩) ?_
 generalize W.drew = w0 at *
 refine xaa _ _ rfl (xan (by rfl) 82 _ rfl w.heap.size rfl 82 #[getV p] _ Tryz.underlying82 rfl (xav (getV p)) (fun W hS=>hS.get 0 rfl)) ?_
 try simp only [qp,qa,qb,qc]
 iterate 1
  first
   | (refine xad _ rfl (by rfl) ?_)
   | (refine xaa _ _ rfl (.inl ⟨by rfl,fun W hS=>by clear hS;go_simp;try with_reducible rfl⟩) ?_)
  try simp only [qp,qa,qb,qc]
 iterate 1
  first
   | (refine xad _ rfl (by rfl) ?_)
   | (refine xaa _ _ rfl (.inl ⟨by rfl,fun W hS=>by have z:=hS.cell 1 rfl 0 (v:=.int .u8 x.code) rfl;go_simp;try with_reducible rfl⟩) ?_)
  try simp only [qp,qa,qb,qc]
 iterate 1
  first
   | (refine xad _ rfl (by rfl) ?_)
   | (refine xaa _ _ rfl (.inl ⟨by rfl,fun W hS=>by clear hS;go_simp;try with_reducible rfl⟩) ?_)
  try simp only [qp,qa,qb,qc]
 iterate 1
  first
   | (refine xad _ rfl (by rfl) ?_)
   | (refine xaa _ _ rfl (.inl ⟨by rfl,fun W hS=>by have z:W.cell? ⟨w.heap.size,0,none⟩ = some (.iface 121 (.pointer (some ⟨p,0,none⟩))):=hS.cell 0 rfl 0 rfl;go_simp;try with_reducible rfl⟩) ?_)
  try simp only [qp,qa,qb,qc]
 iterate 1
  first
   | (refine xad _ rfl (by rfl) ?_)
   | (refine xaa _ _ rfl (.inl ⟨by rfl,fun W hS=>by clear hS;go_simp;try with_reducible rfl⟩) ?_)
  try simp only [qp,qa,qb,qc]
 iterate 1
  first
   | (refine xad _ rfl (by rfl) ?_)
   | (refine xaa _ _ rfl (.inl ⟨by rfl,fun W hS=>by have z:=hS.cell 1 rfl 1 (v:=strV x.data) rfl;go_simp;try with_reducible rfl⟩) ?_)
  try simp only [qp,qa,qb,qc]
 refine xam _ rfl (fun K hK=>?_)
 go_simp
 refine (get_one p X _ s F x.code r0.inv hc (hne.here hM.out)).mono ?_
 intro e w1 h1
 rcases h1.split with ⟨q,hr,rfl,G,hs⟩ | ⟨y1,s1,F1,hr,rfl,hI1,hs1⟩
 ·exact xbo (xbp (hM.out.trans (xau hr)) ⟨_,r0.stp.trans hs⟩) rfl
 replace hM:Hid _:=hM.out.trans (xag hr)
 have r1:=r0.call hC hI1 hs1
 refine hK.out _ _ r1.held2 ?_
 clear hK K hr h1 hs1
 try simp only [qp,qa,qb,qc]
 refine xam _ rfl (fun K hK=>?_)
 go_simp
 refine (gettxt_ends p X x.data 80 _ s1 F1 r1.inv hd (by decide) (hne.here hM.out)).mono ?_
 intro e w2 h2
 rcases h2.split with ⟨q,hr,rfl,G,hs⟩ | ⟨y2,s2,F2,hr,rfl,hI2,hs2⟩
 ·exact xbo (xbp (hM.out.trans (xau hr)) ⟨_,r1.stp.trans hs⟩) rfl
 replace hM:Hid _:=hM.out.trans (xag hr)
 have r2:=r1.call hC hI2 hs2
 refine hK.out _ _ r2.held2 ?_
 clear hK K hr h2 hs2
 try simp only [qp,qa,qb,qc]
 refine xaa _ _ rfl (xat (by rfl) 32 _ rfl [(0,.int .u8 y1),(1,strV y2)] rfl (resC ⟨y1,y2⟩) (get_wb_res y1 y2)) ?_
 try simp only [qp,qa,qb,qc]
 have r9:=r2.third hC (resC ⟨y1,y2⟩)
 refine xbs _ rfl (by rfl) 32 _ _ rfl (w.heap.size + 1 + 1) rfl (resC ⟨y1,y2⟩) rfl 32 (resC res0) (xeb _) rfl (res_one _) (r2.get 2 rfl) r9.held2 ?_
 try simp only [qp,qa,qb,qc]
 refine xcd ?_
 go_wp2
 refine xba rfl (w.heap.size + 1 + 1) rfl 32 (resC ⟨y1,y2⟩) _ Tryz.underlying32 rfl (xeb _) (r9.get 2 rfl) rfl (xda hM.out rfl r9.inv r9.stp)
theorem get_coder (p:Nat) (X:Nat → Prop):Coder False GetC (getV p) (GetI p X) X where
 kept:=get_kept p X
 lt:=get_lt p X
 len:=get_len
 one:=fun w s F n hI hn hne=>get_one p X w s F n hI hn hne
 four:=fun w s F n hI hn hne=>get_four p X w s F n hI hn hne
 small:=fun w s F n hI h0 h1 hne=>get_small p X w s F n hI h0 h1 hne
 data:=fun w s F t hI ht hne=>get_data p X w s F t hI ht hne
 res:=fun w s F r hI hc hd hne=>get_res p X w s F r hI hc hd hne
end Go.Proofs.YtecilienolabfaaGreatDoor
