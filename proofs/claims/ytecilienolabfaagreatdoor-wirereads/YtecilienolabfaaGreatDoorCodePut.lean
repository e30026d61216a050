/- Who puts, as a coder. Written by tools/igen.py. -/
import Derived.Test.YtecilienolabfaaGreatDoorPackCode
import Derived.Test.YtecilienolabfaaGreatDoorWalkMsg
namespace Go.Proofs.YtecilienolabfaaGreatDoor
set_option linter.unusedSimpArgs false
set_option linter.unusedVariables false
set_option maxRecDepth 100000
open Go.RowKit
def putV (p:Nat):Value:=.iface 78 (.pointer (some ⟨p,0,none⟩))
theorem put_box (p:Nat) (w:World) (s:List UInt8) (F:Nat → Prop) (h:(PutI p) w s F) (o:Obj):(PutI p) (w.alloc o) s F ∧ Stp F F w (w.alloc o) :=
 ⟨put_kept p _ _ _ _ h (by simp) (fun k hk _=>Below.heap_alloc _ _ _ hk),Stp.of ((Below.refl _ _).alloc (Nat.le_refl _) _)⟩
set_option maxHeartbeats 1000000 in
theorem put_one (p:Nat) (w:World) (s:List UInt8) (F:Nat → Prop) (n:Nat) (hI:(PutI p) w s F) (hn:n < 256) (hne:Bare True (oneM PutL n s)):Calls Tryz.prog 66 #[.agg #[putV p],.int .u8 (n:Nat)] w (Ends (PutI p) F w (oneM PutL n s) fun m=>.int .u8 (m:Nat)):=by
 have hM:Hid (oneM PutL n s = (PutL.num n 1).bind (fun m=>.ret (m % 256)) s):=rfl
 have hm:∀ W,(Go.method 333 78 (.pointer (some ⟨p,0,none⟩)) "paddock/wire.number").run Tryz.prog W = .ok (27,.pointer (some ⟨p,0,none⟩)) W:=fun _=>by kernel_rfl
 obtain ⟨hI1,hs1⟩:=put_box p w s F hI (.cells #[putV p] 82)
 have hnum:=putnum_ends p n 1 _ s F hI1 (by omega) (by decide) (hne.here hM.out)
 replace hnum:Hid _:=hnum
 have hs1':Hid _:=hs1
 clear hI hI1 hs1 hne
 unfold putV at hnum hs1' ⊢
 go_enter Tryz.func66,Tryz.ntmps66
 go_wp2_with fail
 refine Calls.mono hnum.out ?_
 intro e w1 h1
 clear hnum
 rcases h1.split with ⟨q,hr,rfl,G,hs⟩ | ⟨y,s2,F2,hr,rfl,hI2,hs2⟩
 ·have hE:Hid _:=hM.out.trans (xau hr)
  replace hs:Hid _:=hs
  clear h1 hM hr
  unfold thrown
  go_wp2
  exact ⟨rfl,xck hE.out rfl ⟨_,hs1'.out.trans hs.out⟩⟩
 ·have hE:Hid _:=hM.out.trans (xag hr)
  have hy:=put_big hr (by omega)
  replace hI2:Hid _:=hI2
  replace hs2:Hid _:=hs2
  clear h1 hM hr
  go_wp2
  go_ret
  exact xda hE.out (by first | rfl | (show Ending.returned (Value.int .u8 (IntKind.u8.wrap ((y:Nat):Int))) = _;rw [IntKind.wrap_u8];first | rfl | (congr 2;omega))) hI2.out (hs1'.out.trans hs2.out)
set_option maxHeartbeats 1000000 in
theorem put_four (p:Nat) (w:World) (s:List UInt8) (F:Nat → Prop) (n:Nat) (hI:(PutI p) w s F) (hn:n < 4294967296) (hne:Bare True (fourM PutL n s)):Calls Tryz.prog 67 #[.agg #[putV p],.int .u32 (n:Nat)] w (Ends (PutI p) F w (fourM PutL n s) fun m=>.int .u32 (m:Nat)):=by
 have hM:Hid (fourM PutL n s = (PutL.num n 4).bind (fun m=>.ret (m % 4294967296)) s):=rfl
 have hm:∀ W,(Go.method 333 78 (.pointer (some ⟨p,0,none⟩)) "paddock/wire.number").run Tryz.prog W = .ok (27,.pointer (some ⟨p,0,none⟩)) W:=fun _=>by kernel_rfl
 obtain ⟨hI1,hs1⟩:=put_box p w s F hI (.cells #[putV p] 82)
 have hnum:=putnum_ends p n 4 _ s F hI1 (by omega) (by decide) (hne.here hM.out)
 replace hnum:Hid _:=hnum
 have hs1':Hid _:=hs1
 clear hI hI1 hs1 hne
 unfold putV at hnum hs1' ⊢
 go_enter Tryz.func67,Tryz.ntmps67
 go_wp2_with fail
 refine Calls.mono hnum.out ?_
 intro e w1 h1
 clear hnum
 rcases h1.split with ⟨q,hr,rfl,G,hs⟩ | ⟨y,s2,F2,hr,rfl,hI2,hs2⟩
 ·have hE:Hid _:=hM.out.trans (xau hr)
  replace hs:Hid _:=hs
  clear h1 hM hr
  unfold thrown
  go_wp2
  exact ⟨rfl,xck hE.out rfl ⟨_,hs1'.out.trans hs.out⟩⟩
 ·have hE:Hid _:=hM.out.trans (xag hr)
  have hy:=put_big hr (by omega)
  replace hI2:Hid _:=hI2
  replace hs2:Hid _:=hs2
  clear h1 hM hr
  go_wp2
  go_ret
  exact xda hE.out (by first | rfl | (show Ending.returned (Value.int .u32 (IntKind.u32.wrap ((y:Nat):Int))) = _;rw [IntKind.wrap_u32];first | rfl | (congr 2;omega))) hI2.out (hs1'.out.trans hs2.out)
set_option maxHeartbeats 1000000 in
theorem put_small (p:Nat) (w:World) (s:List UInt8) (F:Nat → Prop) (n:Int) (hI:(PutI p) w s F) (h0:-9223372036854775808 ≤ n) (h1:n ≤ 9223372036854775807) (hne:Bare True (smallM PutL n s)):Calls Tryz.prog 105 #[.agg #[putV p],.int .i64 n] w (Ends (PutI p) F w (smallM PutL n s) fun m=>.int .i64 m):=by
 have hM:Hid (smallM PutL n s = (PutL.num (n % 18446744073709551616).toNat 1).bind (fun m=>.ret (sgn m)) s):=rfl
 have hm:∀ W,(Go.method 333 78 (.pointer (some ⟨p,0,none⟩)) "paddock/wire.number").run Tryz.prog W = .ok (27,.pointer (some ⟨p,0,none⟩)) W:=fun _=>by kernel_rfl
 obtain ⟨hI1,hs1⟩:=put_box p w s F hI (.cells #[putV p] 82)
 have hnum:=putnum_ends p (n % 18446744073709551616).toNat 1 _ s F hI1 (by omega) (by decide) (hne.here hM.out)
 replace hnum:Hid _:=hnum
 have hs1':Hid _:=hs1
 clear hI hI1 hs1 hne
 unfold putV at hnum hs1' ⊢
 have hz:IntKind.u64.wrap n = ((n % 18446744073709551616).toNat:Int):=by rw [IntKind.wrap_u64];omega
 have hNl:(n % 18446744073709551616).toNat < 18446744073709551616:=by omega
 generalize (n % 18446744073709551616).toNat = N at *
 go_enter Tryz.func105,Tryz.ntmps105
 go_wp2_with fail
 refine Calls.mono hnum.out ?_
 intro e w1 h1
 clear hnum
 rcases h1.split with ⟨q,hr,rfl,G,hs⟩ | ⟨y,s2,F2,hr,rfl,hI2,hs2⟩
 ·have hE:Hid _:=hM.out.trans (xau hr)
  replace hs:Hid _:=hs
  clear h1 hM hr
  unfold thrown
  go_wp2
  exact ⟨rfl,xck hE.out rfl ⟨_,hs1'.out.trans hs.out⟩⟩
 ·have hE:Hid _:=hM.out.trans (xag hr)
  have hy:=put_big hr (by omega)
  replace hI2:Hid _:=hI2
  replace hs2:Hid _:=hs2
  clear h1 hM hr
  go_wp2
  go_ret
  exact xda hE.out (by first | rfl | (show Ending.returned (Value.int .i64 (wrap64 ((y:Nat):Int))) = _;rw [wrap64_sgn hy])) hI2.out (hs1'.out.trans hs2.out)
set_option maxHeartbeats 1000000 in
theorem put_data (p:Nat) (w:World) (s:List UInt8) (F:Nat → Prop) (t:List UInt8) (hI:(PutI p) w s F) (ht:t.length ≤ 80) (hne:Bare True (dataM PutL t s)):Calls Tryz.prog 106 #[.agg #[putV p],strV t] w (Ends (PutI p) F w (dataM PutL t s) strV):=by
 have hm:∀ W,(Go.method 333 78 (.pointer (some ⟨p,0,none⟩)) "paddock/wire.text").run Tryz.prog W = .ok (162,.pointer (some ⟨p,0,none⟩)) W:=fun _=>by kernel_rfl
 obtain ⟨hI1,hs1⟩:=put_box p w s F hI (.cells #[putV p] 82)
 have htxt:=puttxt_ends p t 16 _ s F hI1 ht (by decide) hne
 replace htxt:Hid _:=htxt
 have hs1':Hid _:=hs1
 clear hI hI1 hs1 hne
 unfold putV at htxt hs1' ⊢
 go_enter Tryz.func106,Tryz.ntmps106
 go_wp2_with fail
 refine Calls.mono htxt.out ?_
 intro e w1 h1
 clear htxt
 rcases h1.split with ⟨q,hr,rfl,G,hs⟩ | ⟨y,s2,F2,hr,rfl,hI2,hs2⟩
 ·have hE:Hid (dataM PutL t s = .error q):=hr
  replace hs:Hid _:=hs
  clear h1 hr
  unfold thrown
  go_wp2
  exact ⟨rfl,xck hE.out rfl ⟨_,hs1'.out.trans hs.out⟩⟩
 ·have hE:Hid (dataM PutL t s = .ok (y,s2)):=hr
  replace hI2:Hid _:=hI2
  replace hs2:Hid _:=hs2
  clear h1 hr
  go_wp2
  go_ret
  exact xda hE.out rfl hI2.out (hs1'.out.trans hs2.out)
theorem put_wb_res (c:Nat) (d:List UInt8):Tryz.prog.built 32 [(0,.int .u8 (c:Int)),(1,strV d)] = some (resC ⟨c,d⟩):=by kernel_rfl
set_option maxHeartbeats 4000000 in
theorem put_res (p:Nat) (w:World) (s:List UInt8) (F:Nat → Prop) (x:ResV) (hI:(PutI p) w s F) (hc:x.code < 256) (hd:x.data.length ≤ 80) (hne:Bare True (resM PutL x s)):Calls Tryz.prog 74 #[.agg #[putV p],.agg (resC x)] w (Ends (PutI p) F w (resM PutL x s) fun m=>.agg (resC m)):=by
 have hM:Hid (resM PutL x s = ((oneM PutL x.code).bind fun c=>(PutL.txt x.data 80).bind fun d=>.ret ⟨c,d⟩) s):=rfl
 have hm:∀ W,(Go.method 333 78 (.pointer (some ⟨p,0,none⟩)) "paddock/wire.text").run Tryz.prog W = .ok (162,.pointer (some ⟨p,0,none⟩)) W:=fun _=>by kernel_rfl
 have hC:Coder True NilC (putV p) (PutI p) (fun _=>False):=nil_coder (put_kept p) (put_lt p)
 obtain ⟨W,hW,r⟩:=xdr hC hI 82 32 32 #[putV p] (resC x) (resC res0)
 go_enter Tryz.func74,Tryz.ntmps74
 go_wp2_with (first
  | (refine xac (by rfl) 32 rfl (resC res0) res_zero ?_;rw [hW];clear hW;simp only [xgs]))
 have r0:=r.drew hC
 refine xcb (Held (PutI p) (fun _=>False) F w [(w.heap.size,82,#[putV p]),(w.heap.size + 1,32,resC x)]) (Plan.of [(0,true),(1,true),(2,true),(4,true),(5,true),(6,true),(7,true),(3,false),(8,false),(9,true),(10,false)] .done) (Thr F w (resM PutL x s)) (by kernel_rfl) (by kernel_rfl) (by kernel_rfl) (by kernel_rfl) r0.held2 (fun c a' w' h hd=>⟨hd,h.ends⟩) ?_
 generalize W.drew = w0 at *
 refine xaa _ _ rfl (xan (by rfl) 82 _ rfl w.heap.size rfl 82 #[putV p] _ Tryz.underlying82 rfl (xav (putV p)) (fun W hS=>hS.get 0 rfl)) ?_
 try simp only [qp,qa,qb,qc]
 iterate 1
  first
   | (refine xad _ rfl (by rfl) ?_)
   | (refine xaa _ _ rfl (.inl ⟨by rfl,fun W hS=>by clear hS;go_simp;try with_reducible rfl⟩) ?_)
  try simp only [qp,qa,qb,qc]
 iterate 1
  first
   | (refine xad _ rfl (by rfl) ?_)
   | (refine xaa _ _ rfl (.inl ⟨by rfl,fun W hS=>by have z:=hS.cell 1 rfl 0 (v:=.int .u8 x.code) rfl;go_simp;try with_reducible rfl⟩) ?_)
  try simp only [qp,qa,qb,qc]
 iterate 1
  first
   | (refine xad _ rfl (by rfl) ?_)
   | (refine xaa _ _ rfl (.inl ⟨by rfl,fun W hS=>by clear hS;go_simp;try with_reducible rfl⟩) ?_)
  try simp only [qp,qa,qb,qc]
 iterate 1
  first
   | (refine xad _ rfl (by rfl) ?_)
   | (refine xaa _ _ rfl (.inl ⟨by rfl,fun W hS=>by have z:W.cell? ⟨w.heap.size,0,none⟩ = some (.iface 78 (.pointer (some ⟨p,0,none⟩))):=hS.cell 0 rfl 0 rfl;go_simp;try with_reducible rfl⟩) ?_)
  try simp only [qp,qa,qb,qc]
 iterate 1
  first
   | (refine xad _ rfl (by rfl) ?_)
   | (refine xaa _ _ rfl (.inl ⟨by rfl,fun W hS=>by clear hS;go_simp;try with_reducible rfl⟩) ?_)
  try simp only [qp,qa,qb,qc]
 iterate 1
  first
   | (refine xad _ rfl (by rfl) ?_)
   | (refine xaa _ _ rfl (.inl ⟨by rfl,fun W hS=>by have z:=hS.cell 1 rfl 1 (v:=strV x.data) rfl;go_simp;try with_reducible rfl⟩) ?_)
  try simp only [qp,qa,qb,qc]
 refine xam _ rfl (fun K hK=>?_)
 go_simp
 refine (put_one p _ s F x.code r0.inv hc (hne.here hM.out)).mono ?_
 intro e w1 h1
 rcases h1.split with ⟨q,hr,rfl,G,hs⟩ | ⟨y1,s1,F1,hr,rfl,hI1,hs1⟩
 ·exact xbo (xbp (hM.out.trans (xau hr)) ⟨_,r0.stp.trans hs⟩) rfl
 replace hM:Hid _:=hM.out.trans (xag hr)
 have r1:=r0.call hC hI1 hs1
 refine hK.out _ _ r1.held2 ?_
 clear hK K hr h1 hs1
 try simp only [qp,qa,qb,qc]
 refine xam _ rfl (fun K hK=>?_)
 go_simp
 refine (puttxt_ends p x.data 80 _ s1 F1 r1.inv hd (by decide) (hne.here hM.out)).mono ?_
 intro e w2 h2
 rcases h2.split with ⟨q,hr,rfl,G,hs⟩ | ⟨y2,s2,F2,hr,rfl,hI2,hs2⟩
 ·exact xbo (xbp (hM.out.trans (xau hr)) ⟨_,r1.stp.trans hs⟩) rfl
 replace hM:Hid _:=hM.out.trans (xag hr)
 have r2:=r1.call hC hI2 hs2
 refine hK.out _ _ r2.held2 ?_
 clear hK K hr h2 hs2
 try simp only [qp,qa,qb,qc]
 refine xaa _ _ rfl (xat (by rfl) 32 _ rfl [(0,.int .u8 y1),(1,strV y2)] rfl (resC ⟨y1,y2⟩) (put_wb_res y1 y2)) ?_
 try simp only [qp,qa,qb,qc]
 have r9:=r2.third hC (resC ⟨y1,y2⟩)
 refine xbs _ rfl (by rfl) 32 _ _ rfl (w.heap.size + 1 + 1) rfl (resC ⟨y1,y2⟩) rfl 32 (resC res0) (xeb _) rfl (res_one _) (r2.get 2 rfl) r9.held2 ?_
 try simp only [qp,qa,qb,qc]
 refine xcd ?_
 go_wp2
 refine xba rfl (w.heap.size + 1 + 1) rfl 32 (resC ⟨y1,y2⟩) _ Tryz.underlying32 rfl (xeb _) (r9.get 2 rfl) rfl (xda hM.out rfl r9.inv r9.stp)
theorem put_coder (p:Nat):Coder True PutL (putV p) (PutI p) (fun _=>False) where
 kept:=put_kept p
 lt:=put_lt p
 len:=put_len
 one:=fun w s F n hI hn hne=>put_one p w s F n hI hn hne
 four:=fun w s F n hI hn hne=>put_four p w s F n hI hn hne
 small:=fun w s F n hI h0 h1 hne=>put_small p w s F n hI h0 h1 hne
 data:=fun w s F t hI ht hne=>put_data p w s F t hI ht hne
 res:=fun w s F r hI hc hd hne=>put_res p w s F r hI hc hd hne
end Go.Proofs.YtecilienolabfaaGreatDoor
