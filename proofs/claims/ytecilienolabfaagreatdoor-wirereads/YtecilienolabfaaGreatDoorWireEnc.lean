/- The contract of wire.Encode. -/
import Derived.Test.YtecilienolabfaaGreatDoorIsAny
import Derived.Test.YtecilienolabfaaGreatDoorCodePut
import Derived.Test.YtecilienolabfaaGreatDoorPackCode
import Derived.Test.YtecilienolabfaaGreatDoorMsgFacts
namespace Go.Proofs.YtecilienolabfaaGreatDoor
set_option linter.unusedSimpArgs false
set_option linter.unusedVariables false
set_option maxRecDepth 100000
open Go.RowKit
theorem fits_putL {l:List EntV} (h:Fits PutC l):Fits PutL l:=fun s n t hr=>by
 obtain ⟨x,r,h1,h2⟩:=xaw.1 hr
 obtain ⟨rfl,rfl⟩:=ret_ok.1 h2
 rw [putL_num] at h1
 split at h1
 ·injection h1 with h1
  injection h1 with h3 h4
  refine h s _ (s ++ putB ((l.length:Int) % 18446744073709551616).toNat 1) ?_
  show (PutC.num _ 1).bind _ s = _
  rw [xag (put_num _ _ _),← h3]
  rfl
 ·cases h1
theorem LgW.putL {l:List EntV} (h:LgW PutC l):LgW PutL l:=⟨h.each,h.len,fits_putL h.fits⟩
theorem StW.putL {s:StV} (h:StW PutC s):StW PutL s:=⟨h.started,h.tail,h.base,h.log.putL⟩
theorem parts_L {m:MsgV} {s:ShV} (h:PartsW PutC s m):PartsW PutL s m :=
 ⟨fun q=>(h.st q).putL,fun q=>⟨(h.dif q).kind1,(h.dif q).kind2,(h.dif q).fr,(h.dif q).log.putL,(h.dif q).whole.putL⟩,h.ent,h.op,h.res⟩
theorem one_kind {m:MsgV} {s:List UInt8} {k:Nat} {t:List UInt8} (hk:m.kind < 256) (h:oneM PutL m.kind s = .ok (k,t)):k = m.kind:=by
 obtain ⟨x,r,h1,h2⟩:=xaw.1 h
 obtain ⟨rfl,rfl⟩:=ret_ok.1 h2
 rw [putL_num] at h1
 split at h1
 ·injection h1 with h1
  injection h1 with h3 h4
  omega
 ·cases h1
theorem put_start {w:World} {p:Nat} (h:Has w p 77 #[.slice none 0 0]):PutI p w [] (fun k=>k = p) :=
 ⟨.slice none 0 0,h,World.ownsRow_nil _ _ _ _,fun k=>by simp [Value.ownBlock],by decide,by simp [Value.ownBlock]⟩
theorem own_up {w:World} {base B n:Nat} {v:Value} {xs:List Value} (h:w.ownsRow base 5 1 v n xs) (hB:∀ k,v.ownBlock = some k → B ≤ k):w.ownsRow B 5 1 v n xs:=by
 refine ⟨h.1,?_⟩
 rcases h.2 with hn | ⟨g,cap,cur,rfl,_,rest⟩
 ·exact .inl hn
 ·exact .inr ⟨g,cap,cur,rfl,hB g rfl,rest⟩
theorem PutI.own {p B:Nat} {w:World} {s:List UInt8} {F:Nat → Prop} (h:PutI p w s F) (hs:0 < s.length) (hN:∀ k,F k → B ≤ k):∃ g c,Has w p 77 #[.slice (some ⟨g,0,none⟩) s.length c] ∧ w.ownsRow B 5 1 (.slice (some ⟨g,0,none⟩) s.length c) s.length (Bs s) ∧ By w (some ⟨g,0,none⟩) c s:=by
 obtain ⟨v,hp,ho,hF,hL,_⟩:=h
 obtain ⟨g,c,rfl,hb,hc⟩:=xbw ho (by omega)
 exact ⟨g,c,hp,own_up ho (fun k hk=>hN k ((hF k).2 (.inr hk))),By.own ho hc⟩
theorem putter_size:(Tryz.prog.info? 77).map (·.size) = some (#[Value.slice none 0 0]:Array Value).size:=by show _ = some 1;kernel_rfl
theorem putter_one:(#[Value.slice none 0 0]:Array Value).all (·.oneCell') = true:=by simp [Value.oneCell']
theorem putter_zero:(Tryz.prog.info? 77).map (·.zero) = some (some (.agg #[.slice none 0 0])):=by kernel_rfl
set_option maxHeartbeats 8000000 in
theorem wencode_no (m:MsgV) (a1 a2 a3:Option Addr) (c1 c2 c3:Nat) (w:World) (hm:MsgOk m) (sm:MsgSl w m a1 c1 a2 c2 a3 c3) (hi:isMsg m = false):Calls Tryz.prog 11 #[.agg (msgC m a1 c1 a2 c2 a3 c3)] w fun en w'=>en = .returned (.tuple #[.slice none 0 0,.int .i64 10]) ∧ Below w.heap.size w w':=by
 obtain ⟨w1,hw1,hX,hb⟩:=xbr w 48 (msgC m a1 c1 a2 c2 a3 c3)
 replace hi:Hid _:=hi
 go_enter Tryz.func11,Tryz.ntmps11
 go_wp2_with (first
  | (refine xab (by rfl) 48 _ rfl w.heap.size rfl 48 (msgC m a1 c1 a2 c2 a3 c3) _ Tryz.underlying48 rfl (xah m a1 a2 a3 c1 c2 c3) ?hg ?_;(case hg=>exact hX))
  | fail)
 refine (wis_any m a1 a2 a3 c1 c2 c3 _ hm (sm.later hb)).mono ?_
 rintro en w2 ⟨rfl,hq⟩
 rw [hi.out]
 replace hb:=hb.trans (hq.mono hb.size)
 go_wp2
 go_ret2
 exact ⟨rfl,hb⟩
set_option maxHeartbeats 8000000 in
theorem wencode_yes (m:MsgV) (a1 a2 a3:Option Addr) (c1 c2 c3:Nat) (w:World) (hm:MsgOk m) (sm:MsgSl w m a1 c1 a2 c2 a3 c3) (hi:isMsg m = true):Calls Tryz.prog 11 #[.agg (msgC m a1 c1 a2 c2 a3 c3)] w fun en w'=>∃ g c,en = .returned (.tuple #[.slice (some ⟨g,0,none⟩) (sumB (msgB m)).length c,.int .i64 0]) ∧ w'.ownsRow w.heap.size 5 1 (.slice (some ⟨g,0,none⟩) (sumB (msgB m)).length c) (sumB (msgB m)).length (Bs (sumB (msgB m))) ∧ By w' (some ⟨g,0,none⟩) c (sumB (msgB m)) ∧ Below w.heap.size w w':=by
 obtain ⟨w1,hw1,hX,hb⟩:=xbr w 48 (msgC m a1 c1 a2 c2 a3 c3)
 have hG:=xhi hm hi
 obtain ⟨_,hfit,honly⟩:=xch.1 hi
 obtain ⟨hl1,hl2⟩:=xdp hG
 have hputL:Hid (msgM PutL m [] = .ok (onlyM m,[] ++ msgB m)):=putL_msg (only_put hm hfit []) (by simpa using (by omega:(msgB m).length ≤ 1000000))
 have hparts:Hid (∀ k t,oneM PutL m.kind [] = .ok (k,t) → PartsW PutL (shapeM k) m):=fun k t h=>by
  rw [one_kind hm.kind h]
  exact parts_L (parts_W hm hfit)
 replace hi:Hid _:=hi
 clear hfit honly hG
 go_enter Tryz.func11,Tryz.ntmps11
 go_wp2_with (first
  | (refine xab (by rfl) 48 _ rfl w.heap.size rfl 48 (msgC m a1 c1 a2 c2 a3 c3) _ Tryz.underlying48 rfl (xah m a1 a2 a3 c1 c2 c3) ?hg ?_;(case hg=>exact hX))
  | fail)
 refine (wis_any m a1 a2 a3 c1 c2 c3 _ hm (sm.later hb)).mono ?_
 rintro en w2 ⟨rfl,hq⟩
 rw [hi.out]
 replace hX:=hX.later hq
 replace hb:=hb.trans (hq.mono hb.size)
 clear hq hw1
 obtain ⟨w3,hw3,hP,hq⟩:=xcm w2 77 #[.slice none 0 0] #[.slice none 0 0]
 replace hX:=hX.later hq
 have hb3:=hb.trans (hq.mono hb.size)
 have hsz:w.heap.size ≤ w2.heap.size:=hb.size
 have hI:=put_start hP
 have nF:∀ (ao:Option Addr) (ad:Addr),ao = some ad → ad.block < w2.heap.size → ¬ (fun k=>k = w2.heap.size) ad.block:=fun _ ad _ h q=>by have:ad.block = w2.heap.size:=q;omega
 have sm2:=sm.later hb
 have sl1:=(SlF.of (F:=fun k=>k = w2.heap.size) sm2.st (nF _)).step (Stp.of hq)
 have sl2:=(SlF.of (F:=fun k=>k = w2.heap.size) sm2.log (nF _)).step (Stp.of hq)
 have sl3:=(SlF.of (F:=fun k=>k = w2.heap.size) sm2.whole (nF _)).step (Stp.of hq)
 have hcall:=wmsg_any (put_coder w2.heap.size) w3 [] (fun k=>k = w2.heap.size) m a1 a2 a3 c1 c2 c3 hI hm hparts.out sl1 sl2 sl3 (fun _ h=>by rw [hputL.out] at h;cases h)
 rw [hputL.out,List.nil_append] at hcall
 replace hcall:Hid _:=hcall
 unfold putV at hcall
 go_wp2_with (first
  | (refine xac (by rfl) 77 rfl #[.slice none 0 0] putter_zero ?_)
  | (refine xai (by rfl) 77 _ _ rfl w2.heap.size rfl #[.slice none 0 0] rfl 77 #[.slice none 0 0] putter_size rfl putter_one ?hg w3 ?hW ?_;(case hg=>exact Has.new _ _ _);(case hW=>exact hw3);clear hw3)
  | (refine xab (by rfl) 48 _ rfl w.heap.size rfl 48 (msgC m a1 c1 a2 c2 a3 c3) _ Tryz.underlying48 rfl (xah m a1 a2 a3 c1 c2 c3) ?hg ?_;(case hg=>exact hX))
  | fail)
 refine Calls.mono hcall.out ?_
 rintro en w4 ⟨F',b1,e1,b2,e2,b3,e3,rfl,l1,l2,l3,hI4,hst⟩
 clear hcall l1 l2 l3
 have hb4:Below w.heap.size w w4:=hb3.trans (hst.off.below (fun b q=>by have:b = w2.heap.size:=q;omega) hb3.size)
 have hN4:∀ k,F' k → w2.heap.size ≤ k:=by
  intro k hk
  rcases hst.new k hk with z | z
  ·exact Nat.le_of_eq (show k = w2.heap.size from z).symm
  ·exact Nat.le_trans (Nat.le_of_lt hP.lt) z
 obtain ⟨g4,cc4,hp4,ho4,hB4⟩:=hI4.own (by omega) hN4
 have hcell:=hp4.cell 0
 have hnum:Calls Tryz.prog 27 #[.pointer (some ⟨w2.heap.size,0,none⟩),.int .u64 (sumN (msgB m):Nat),.int .i64 8] w4 _:=putnum_any w2.heap.size (sumN (msgB m)) 8 w4 (msgB m) F' hI4 (xdi _) (by decide) (by omega)
 replace hnum:Hid _:=hnum
 clear hst ho4
 go_wp2_with fail
 refine (sum_any _ _ _ _ w4 hB4 rfl).mono ?_
 rintro en w5 ⟨rfl,rfl⟩
 go_wp2_with fail
 refine Calls.mono hnum.out ?_
 rintro en w6 ⟨rfl,F6,hI6,hst6⟩
 clear hnum hcell hp4 hB4
 have hsum:msgB m ++ putB (sumN (msgB m)) 8 = sumB (msgB m):=rfl
 rw [hsum] at hI6
 have hb6:Below w.heap.size w w6:=hb4.trans (hst6.off.below (fun b q=>Nat.le_trans hsz (hN4 b q)) hb4.size)
 have hN6:∀ k,F6 k → w.heap.size ≤ k:=by
  intro k hk
  rcases hst6.new k hk with z | z
  ·exact Nat.le_trans hsz (hN4 k z)
  ·exact Nat.le_trans hb4.size z
 clear hsum hst6 hI4 hb4 hN4
 have hlen:=xbz (msgB m)
 obtain ⟨g,c,hp,ho,hB⟩:=hI6.own (by omega) hN6
 have hcell:=hp.cell 0
 have hnot:¬ (2000:Nat) < (sumB (msgB m)).length:=by omega
 replace ho:Hid _:=ho
 clear hN6
 replace hB:Hid _:=hB
 clear hlen hI6 hl1 hl2 hputL hparts hi
 go_wp2
 go_ret2
 exact ⟨g,c,rfl,ho.out,hB.out,hb6⟩
end Go.Proofs.YtecilienolabfaaGreatDoor
