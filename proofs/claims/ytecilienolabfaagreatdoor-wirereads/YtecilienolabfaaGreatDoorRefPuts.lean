/- RefPutLow, RefPutHigh, RefPutSt, DocPuts, joined. -/
import Derived.Test.YtecilienolabfaaGreatDoorBytesOwn
import Derived.Test.YtecilienolabfaaGreatDoorRef2
import Derived.Maps.AppendAt
import Derived.Test.YtecilienolabfaaGreatDoorMsgFacts
import Derived.Test.YtecilienolabfaaGreatDoorWireMem
import Derived.Test.YtecilienolabfaaGreatDoorRefState
import Derived.Test.YtecilienolabfaaGreatDoorIsFacts
import Derived.Test.YtecilienolabfaaGreatDoorDocBase
namespace Go.Proofs.YtecilienolabfaaGreatDoor
set_option linter.unusedSimpArgs false
set_option linter.unusedVariables false
set_option maxRecDepth 100000
open Go.RowKit
def OwnV (w:World) (base:Nat) (v:Value) (s:List UInt8):Prop:=w.ownsRow base 5 1 v s.length (Bs s) ∧ base ≤ w.heap.size ∧ s.length ≤ 100000
structure OffB (base:Nat) (w w':World):Prop where
 below:Below base w w'
 keep:∀ (k:Nat) (t:TypeId) (c:Array Value),Has w k t c → t ≠ 5 → Has w' k t c
theorem OffB.refl (base:Nat) (w:World):OffB base w w:=⟨Below.refl _ _,fun _ _ _ h _=>h⟩
theorem OffB.trans {base:Nat} {a b c:World} (h:OffB base a b) (k:OffB base b c):OffB base a c:=⟨h.below.trans k.below,fun i t x hx ht=>k.keep i t x (h.keep i t x hx ht) ht⟩
theorem OffB.of {base:Nat} {w w':World} (h:Below w.heap.size w w') (hb:base ≤ w.heap.size):OffB base w w':=⟨h.mono hb,fun _ _ _ hx _=>hx.later h⟩
theorem OffB.grown {base:Nat} {w w':World} {v:Value} {n:Nat} {xs:List Value} (hv:w.ownsRow base 5 1 v n xs) (hb:base ≤ w.heap.size) (hg:w.grownBy w' v.ownBlock):OffB base w w':=by
 refine ⟨(Below.refl _ _).grown hg hb (fun k hk=>(hv.lt k hk).1),fun k t c hx ht=>?_⟩
 have hk:=hx.lt
 have hne:some k ≠ v.ownBlock:=fun e=>by
  rcases hv.2 with ⟨rfl,_⟩ | ⟨g,cap,cur,rfl,_,hgg,_⟩
  ·cases e
  ·have e':k = g:=by
    have:some k = some g:=e
    injection this
   subst e'
   unfold Has at hx
   rw [hx] at hgg
   injection hgg with hgg
   injection hgg with _ h2 _
   exact ht h2
 have:=hg.block k hk hne
 unfold Has at *
 rw [this]
 exact hx
def Puts (base:Nat) (w:World) (s t:List UInt8) (e:Ending) (w':World):Prop:=∃ v',e = .returned v' ∧ OwnV w' base v' (s ++ t) ∧ OffB base w w'
theorem run_appS (w:World) (ty:TypeId) (base:Nat) (v:Value) (n:Nat) (xs:List UInt8) (hv:w.ownsRow base 5 1 v n (Bs xs)) (ad:Addr) (k c:Nat) (ys:List UInt8) (h:By w (some ad) c ys) (hk:k = ys.length) (hl:n + k ≤ 1000000000) (hbase:base ≤ w.heap.size) :
  ∃ v' w',(Builtin.append_ #[51,51] ty #[v,.slice (some ad) k c]).run Tryz.prog w = .ok v' w' ∧ w'.ownsRow base 5 1 v' (n + k) (Bs (xs ++ ys)) ∧ w.grownBy w' v.ownBlock ∧ (v'.ownBlock = v.ownBlock ∨ v'.ownBlock = some w.heap.size):=by
 obtain ⟨i0,hi,hz0,hz1,hz2⟩:=info_parts Tryz.infoByte
 subst hk
 obtain ⟨v',w',hr,ho,hg,_,h5⟩:=run_append_own_at (P:=Tryz.prog) w base 51 ty 5 i0 (.int .u8 0) 1 1 Tryz.underlying51 hi hz0 hz1 hz2 rfl (by decide) v n (Bs xs) hv ad ys.length c (Bs ys) (by rw [xdx,Nat.mul_one]) (h.at' ad rfl) (Bs_one _) (by unfold maxLen;omega) (by omega) hbase
 refine ⟨v',w',hr,?_,hg,h5⟩
 rw [xgl]
 exact ho
theorem wpList_appS (w:World) {ops:Array Oper} {rest:List Oper} {o:Oper} {a:Act} {Q:Exit → Act → World → Prop} (hgd:o.guard = none) (s x:Operand)
  (ho:o.op = Op.call { callee:=Callee.builtin Builtin.append,args:=#[s,x],argTypes:=#[51,51] })
  (base:Nat) (v:Value) (n:Nat) (xs:List UInt8) (hs:a.eval s = v) (ad:Addr) (k c:Nat) (ys:List UInt8) (hx:a.eval x = .slice (some ad) k c) (hv:w.ownsRow base 5 1 v n (Bs xs)) (h:By w (some ad) c ys) (hk:k = ys.length) (hl:n + k ≤ 1000000000) (hbase:base ≤ w.heap.size)
  (hK:∀ v' w',w'.ownsRow base 5 1 v' (n + k) (Bs (xs ++ ys)) → w.grownBy w' v.ownBlock → (v'.ownBlock = v.ownBlock ∨ v'.ownBlock = some w.heap.size) → wpList Tryz.prog ops Q rest (a.put o.dst v') w') :
  wpList Tryz.prog ops Q (o :: rest) a w:=by
 refine wpList_plain hgd fun K hK'=>?_
 obtain ⟨v',w',hr,hown,hgr,h5⟩:=run_appS w o.type base v n xs hv ad k c ys h hk hl hbase
 unfold Oper.wp
 simp [execOp,ho,resolve,invoke,builtin,hs,hx,hr,Result.andThen]
 exact hK' _ _ (hK v' w' hown hgr h5)
theorem OwnV.later {w w':World} {base:Nat} {v:Value} {s:List UInt8} (h:OwnV w base v s) (hb:Below w.heap.size w w'):OwnV w' base v s :=
 ⟨own_at h.1 (fun k hk _=>hb.block k hk),Nat.le_trans h.2.1 hb.size,h.2.2⟩
theorem OwnV.drew {w:World} {base:Nat} {v:Value} {s:List UInt8} (h:OwnV w base v s):OwnV w.drew base v s:=h.later (Below.refl _ _).drew
theorem bit_any (x:Bool) (w:World):Calls Tryz.prog 33 #[.bool x] w fun e w'=>e = .returned (.int .u8 ((if x = true then 1 else 0:Nat):Int)) ∧ w' = w:=by
 cases x with
 | true =>
  go_enter Tryz.func33,Tryz.ntmps33
  go_wp2
  go_ret
  exact ⟨rfl,rfl⟩
 | false =>
  go_enter Tryz.func33,Tryz.ntmps33
  go_wp2
  go_ret
  exact ⟨rfl,rfl⟩
set_option maxHeartbeats 1000000 in
theorem xcw (base:Nat) (v:Value) (s:List UInt8) (n:Nat) (w:World) (h:OwnV w base v s) (hn:n < 256) (hl:s.length ≤ 90000):Calls Tryz.prog 32 #[v,.int .u8 (n:Nat)] w (Puts base w s (putB n 1)):=by
 obtain ⟨ho,hbase,_⟩:=h
 have hBb:=byteB w n hn
 have hq:Below w.heap.size w (w.alloc (.cells #[.int .u8 (n:Int)] 5)):=(Below.refl _ _).alloc (Nat.le_refl _) _
 have ho1:=ho.alloc (.cells #[.int .u8 (n:Int)] 5)
 have hl1:base ≤ (w.alloc (.cells #[.int .u8 (n:Int)] 5)).heap.size:=Nat.le_trans hbase hq.size
 have hP:putB n 1 = [UInt8.ofNat n]:=by simp [putB]
 go_enter Tryz.func32,Tryz.ntmps32
 go_wp2_with (first
  | (refine wpList_appS _ rfl _ _ rfl base v s.length s rfl ⟨w.heap.size,0,none⟩ 1 1 [UInt8.ofNat n] rfl ?ho ?hB rfl (by omega) ?hl ?_;(case ho=>exact ho1);(case hB=>exact hBb);(case hl=>exact hl1))
  | fail)
 intro v' w' ho' hg' h5
 have hst:=(OffB.of hq hbase).trans (OffB.grown ho1 hl1 hg')
 have hfin:OwnV w' base v' (s ++ putB n 1):=⟨by rw [hP,List.length_append];exact ho',Nat.le_trans hbase hst.below.size,by rw [List.length_append,xal];omega⟩
 replace hfin:Hid _:=hfin
 replace hst:Hid _:=hst
 clear ho ho1 hBb ho' hP hg' h5
 go_wp2
 go_ret
 exact ⟨_,rfl,hfin.out,hst.out⟩
set_option maxHeartbeats 1600000 in
theorem rputI (base:Nat) (v:Value) (n:Nat) (xs:List Value) (x:Int) (k:Nat) (w:World) (hx0:0 ≤ x) (hx1:x < 18446744073709551616) (h1:0 < k) (hk:k ≤ 8)
  (hown:w.ownsRow base 5 1 v n xs) (hl:n ≤ 1099511627776) (hbase:base ≤ w.heap.size) :
  Calls Tryz.prog 38 #[v,.int .u64 x,.int .i64 k] w fun e w' =>
   ∃ v',e = .returned v' ∧ w'.ownsRow base 5 1 v' (n + k) (xs ++ Bs (putB x.toNat k)) ∧ OffB base w w':=by
 obtain ⟨i0,hi,hz0,hz1,hz2⟩:=info_parts Tryz.infoByte
 go_enter Tryz.func38,Tryz.ntmps38
 go_wp2
 go_loopw [0,8] (fun u i wr=>∃ m:Nat,m ≤ k ∧ i = .int .i64 (k - 1 - m) ∧ wr.ownsRow base 5 1 u (n + m) (xs ++ (Bs (putB x.toNat k)).take m) ∧ OffB base w wr)
  (fun _ i _=>(intOf i + 1).toNat)
 case atStart=>exact ⟨0,Nat.zero_le _,by go_num,by simpa using hown,OffB.refl _ _⟩
 case round =>
  clear hown
  obtain ⟨m,hm,rfl,hownr,hb⟩:=hrel
  have hbs:=hb.below.size
  by_cases hlt:m < k
  ·go_wp2_with (at_builtin;refine wpList_append_own _ rfl _ _ 51 rfl base 5 i0 (.int .u8 0) 1 1 Tryz.underlying51 hi hz0 hz1 hz2 rfl (by decide) _ (n + m) _ rfl (hownr.alloc _) ⟨wr.heap.size,0,none⟩ 1 1 [.int .u8 (x / 2 ^ (8 * (k - 1 - m)) % 256)] rfl rfl ?c1 ?c2 ?c3 ?c4 ?c5 ?_)
   case c1 =>
    intro j u hj
    match j,hj with
    | 0,hj=>simp at hj;subst hj;simp [Addr.add]
   case c2=>intro u hu;simp at hu;subst hu;rfl
   case c3=>unfold maxLen;omega
   case c4=>omega
   case c5=>simp;omega
   ·intro v' w1 hown' hgrow _
    have hb':OffB base w w1:=hb.trans ((OffB.of ((Below.refl _ _).alloc (Nat.le_refl _) _) (by omega)).trans (OffB.grown (hownr.alloc _) (by simp;omega) hgrow))
    have R:=put_step_own (k:=k) hx0 hlt (by simpa using hown')
    clear hown' hgrow hownr hb
    go_wp2
    go_roundw
    case rel=>exact ⟨m + 1,by omega,by go_num,R,hb'⟩
    case measure=>simp [intOf];omega
  ·have hmk:m = k:=by omega
   subst hmk
   go_wp2
   go_ret
   refine ⟨_,rfl,?_,hb⟩
   rw [List.take_of_length_le (by simp [Bs,putB])] at hownr
   exact hownr
theorem rputS (base:Nat) (v:Value) (s:List UInt8) (x k:Nat) (w:World) (h:OwnV w base v s) (hx:x < 18446744073709551616) (h1:0 < k) (hk:k ≤ 8) (hl:s.length ≤ 90000) :
  Calls Tryz.prog 38 #[v,.int .u64 (x:Nat),.int .i64 (k:Nat)] w (Puts base w s (putB x k)):=by
 refine (rputI base v s.length (Bs s) x k w (by omega) (by omega) h1 hk h.1 (by omega) h.2.1).mono ?_
 rintro e w' ⟨v',rfl,ho,hb⟩
 rw [Int.toNat_natCast,← xgl] at ho
 exact ⟨v',rfl,⟨by rw [List.length_append,xal];exact ho,Nat.le_trans h.2.1 hb.below.size,by rw [List.length_append,xal];omega⟩,hb⟩
set_option maxHeartbeats 1000000 in
theorem xcs (base:Nat) (v:Value) (s:List UInt8) (n:Nat) (w:World) (h:OwnV w base v s) (hn:n < 4294967296) (hl:s.length ≤ 90000):Calls Tryz.prog 29 #[v,.int .u32 (n:Nat)] w (Puts base w s (putB n 4)):=by
 have hput:Calls Tryz.prog 38 #[v,.int .u64 (n:Nat),.int .i64 4] w _:=rputS base v s n 4 w h (by omega) (by decide) (by decide) hl
 replace hput:Hid _:=hput
 clear h
 go_enter Tryz.func29,Tryz.ntmps29
 go_wp2_with fail
 refine Calls.mono hput.out ?_
 rintro e w1 ⟨v1,rfl,ho1,hb1⟩
 replace ho1:Hid _:=ho1
 replace hb1:Hid _:=hb1
 clear hput
 go_wp2
 go_ret
 exact ⟨_,rfl,ho1.out,hb1.out⟩
set_option maxHeartbeats 1600000 in
theorem rtext_any (base:Nat) (v:Value) (s t:List UInt8) (w:World) (h:OwnV w base v s) (ht:t.length ≤ 80) (hl:s.length ≤ 90000):Calls Tryz.prog 37 #[v,.string (mkS t)] w (Puts base w s (textB t)):=by
 obtain ⟨i0,hi,hz0,hz1,hz2⟩:=info_parts Tryz.infoByte
 have hsz:=xde t
 have hsI:((mkS t).size:Int) ≤ 65535:=by omega
 have hs8:(mkS t).size ≤ 80:=by omega
 have hcs:Lib.strCells (mkS t) = Bs t:=by rw [strCells_is];unfold strB mkS;simp
 have hput:Calls Tryz.prog 38 #[v,.int .u64 ((mkS t).size:Nat),.int .i64 2] w _:=rputS base v s (mkS t).size 2 w h (by omega) (by decide) (by decide) hl
 replace hput:Hid _:=hput
 replace hcs:Hid _:=hcs
 replace hsz:Hid _:=hsz
 have hbase:=h.2.1
 clear h
 go_enter Tryz.func37,Tryz.ntmps37
 go_wp2_with fail
 refine Calls.mono hput.out ?_
 rintro e w1 ⟨v1,rfl,⟨hown1,hbase1,_⟩,hs1⟩
 clear hput
 rw [List.length_append,xal] at hown1
 replace hs1:Hid _:=hs1
 go_wp2_with (at_builtin;refine Lib.wpList_append_own_string _ rfl _ _ 51 9 rfl base 5 i0 Tryz.underlying51 Tryz.underlying9 hi hz0 hz1 hz2 _ (s.length + 2) _ rfl hown1 (mkS t) rfl (by unfold maxLen;omega) (by omega) (by omega) ?_)
 intro v2 w2 hown2 hgrow hnil
 have hb2:OffB base w w2:=hs1.out.trans (OffB.grown hown1 hbase1 hgrow)
 have hfin:OwnV w2 base v2 (s ++ textB t):=by
  refine ⟨?_,Nat.le_trans hbase hb2.below.size,by rw [List.length_append,xdg];omega⟩
  rw [hcs.out,← xgl,List.append_assoc] at hown2
  have e2:s.length + 2 + (mkS t).size = s.length + (t.length + 2):=by rw [hsz.out];omega
  rw [e2,hsz.out] at hown2
  rw [List.length_append,xdg]
  exact hown2
 replace hfin:Hid _:=hfin
 replace hb2:Hid _:=hb2
 clear hown1 hown2 hgrow hnil hs1
 go_wp2
 go_ret
 exact ⟨_,rfl,hfin.out,hb2.out⟩

theorem xgb:(39:TypeId) ≠ 5:=by decide
theorem ent_byte:(41:TypeId) ≠ 5:=by decide
theorem Has.opc (k:Nat) {w:World} {g:Nat} {o:OpV} (h:Has w g 39 (opC o)) {v:Value} (hv:(opL o)[k]? = some v):w.cell? ⟨g,k,none⟩ = some v:=by
 rw [h.cell k]
 unfold opC
 rw [List.getElem?_toArray]
 exact hv
set_option maxHeartbeats 4000000 in
theorem rop_any (base:Nat) (v:Value) (s:List UInt8) (o:OpV) (w:World) (h:OwnV w base v s) (ho:OpG o) (hl:s.length ≤ 80000):Calls Tryz.prog 36 #[v,.agg (opC o)] w (Puts base w s (opB o)):=by
 obtain ⟨w1,hw1,hX,hb⟩:=xbr w 39 (opC o)
 have hbase:=h.2.1
 have hv:=h.later hb
 have oB:OffB base w w1:=OffB.of hb hbase
 have okk:=ho.ok
 have hdl:=ho.len
 have hd80:o.data.length ≤ 80:=by omega
 clear h hb
 go_enter Tryz.func36,Tryz.ntmps36
 go_wp2_with fail
 clear hw1
 refine xas (fun W=>Has W w.heap.size 39 (opC o)) (Plan.of [(0,true),(1,true),(2,true),(4,true),(5,true),(3,false),(6,false),(7,true)] .done) (by kernel_rfl) (by kernel_rfl) (by kernel_rfl) (by kernel_rfl) hX.drew ?_
 replace hX:=hX.drew
 replace hv:=hv.drew
 replace oB:OffB base w w1.drew:=oB.trans (OffB.of (Below.refl _ _).drew hv.2.1)
 generalize w1.drew = w2 at *
 iterate 2
  first
   | (refine xad _ rfl (by rfl) ?_)
   | (refine xaa _ _ rfl (.inl ⟨by rfl,fun W hS=>by clear hS;go_simp;try with_reducible rfl⟩) ?_)
  try simp only [qp,qa,qb,qc]
 iterate 1
  first
   | (refine xad _ rfl (by rfl) ?_)
   | (refine xaa _ _ rfl (.inl ⟨by rfl,fun W hS=>by have z:=Has.opc 0 hS rfl;go_simp;try with_reducible rfl⟩) ?_)
  try simp only [qp,qa,qb,qc]
 iterate 1
  first
   | (refine xad _ rfl (by rfl) ?_)
   | (refine xaa _ _ rfl (.inl ⟨by rfl,fun W hS=>by clear hS;go_simp;try with_reducible rfl⟩) ?_)
  try simp only [qp,qa,qb,qc]
 iterate 1
  first
   | (refine xad _ rfl (by rfl) ?_)
   | (refine xaa _ _ rfl (.inl ⟨by rfl,fun W hS=>by have z:=Has.opc 1 hS rfl;go_simp;try with_reducible rfl⟩) ?_)
  try simp only [qp,qa,qb,qc]
 refine xam _ rfl (fun K hK=>?_)
 go_simp
 refine (xcw base v s o.client w2 hv okk.client (by omega)).mono ?_
 rintro en w3 ⟨v3,rfl,hv3,ow3⟩
 skip
 refine hK.out _ _ (ow3.keep _ _ _ hX xgb) ?_
 clear hK K
 try simp only [qp,qa,qb,qc]
 replace hX:=ow3.keep _ _ _ hX xgb
 replace oB:=oB.trans ow3
 refine xam _ rfl (fun K hK=>?_)
 go_simp
 refine (xcs base v3 _ o.seq w3 hv3 okk.seq (by simp [xal];omega)).mono ?_
 rintro en w4 ⟨v4,rfl,hv4,ow4⟩
 skip
 refine hK.out _ _ (ow4.keep _ _ _ hX xgb) ?_
 clear hK K
 try simp only [qp,qa,qb,qc]
 replace hX:=ow4.keep _ _ _ hX xgb
 replace oB:=oB.trans ow4
 clear ow3 ow4 hv hv3
 iterate 1
  first
   | (refine xad _ rfl (by rfl) ?_)
   | (refine xaa _ _ rfl (.inl ⟨by rfl,fun W hS=>by clear hS;go_simp;try with_reducible rfl⟩) ?_)
  try simp only [qp,qa,qb,qc]
 refine xbf ?_
 go_wp2_with fail
 refine xas (fun W=>Has W w.heap.size 39 (opC o)) (Plan.of [(0,true),(1,true),(2,true),(4,true),(5,true),(7,true),(8,true),(10,true),(11,true),(3,false),(6,false),(9,false),(12,false),(13,true)] .done) (by kernel_rfl) (by kernel_rfl) (by kernel_rfl) (by kernel_rfl) hX.drew ?_
 replace hX:=hX.drew
 replace hv4:=hv4.drew
 replace oB:OffB base w w4.drew:=oB.trans (OffB.of (Below.refl _ _).drew hv4.2.1)
 generalize w4.drew = w5 at *
 iterate 2
  first
   | (refine xad _ rfl (by rfl) ?_)
   | (refine xaa _ _ rfl (.inl ⟨by rfl,fun W hS=>by clear hS;go_simp;try with_reducible rfl⟩) ?_)
  try simp only [qp,qa,qb,qc]
 iterate 1
  first
   | (refine xad _ rfl (by rfl) ?_)
   | (refine xaa _ _ rfl (.inl ⟨by rfl,fun W hS=>by have z:=Has.opc 2 hS rfl;go_simp;try with_reducible rfl⟩) ?_)
  try simp only [qp,qa,qb,qc]
 iterate 1
  first
   | (refine xad _ rfl (by rfl) ?_)
   | (refine xaa _ _ rfl (.inl ⟨by rfl,fun W hS=>by clear hS;go_simp;try with_reducible rfl⟩) ?_)
  try simp only [qp,qa,qb,qc]
 iterate 1
  first
   | (refine xad _ rfl (by rfl) ?_)
   | (refine xaa _ _ rfl (.inl ⟨by rfl,fun W hS=>by have z:=Has.opc 3 hS rfl;go_simp;try with_reducible rfl⟩) ?_)
  try simp only [qp,qa,qb,qc]
 iterate 1
  first
   | (refine xad _ rfl (by rfl) ?_)
   | (refine xaa _ _ rfl (.inl ⟨by rfl,fun W hS=>by clear hS;go_simp;try with_reducible rfl⟩) ?_)
  try simp only [qp,qa,qb,qc]
 iterate 1
  first
   | (refine xad _ rfl (by rfl) ?_)
   | (refine xaa _ _ rfl (.inl ⟨by rfl,fun W hS=>by have z:=Has.opc 4 hS rfl;go_simp;try with_reducible rfl⟩) ?_)
  try simp only [qp,qa,qb,qc]
 iterate 1
  first
   | (refine xad _ rfl (by rfl) ?_)
   | (refine xaa _ _ rfl (.inl ⟨by rfl,fun W hS=>by clear hS;go_simp;try with_reducible rfl⟩) ?_)
  try simp only [qp,qa,qb,qc]
 iterate 1
  first
   | (refine xad _ rfl (by rfl) ?_)
   | (refine xaa _ _ rfl (.inl ⟨by rfl,fun W hS=>by have z:W.cell? ⟨w.heap.size,5,none⟩ = some (.string (mkS o.data)):=Has.opc 5 hS rfl;go_simp;try with_reducible rfl⟩) ?_)
  try simp only [qp,qa,qb,qc]
 refine xam _ rfl (fun K hK=>?_)
 go_simp
 refine (xcw base v4 _ o.kind w5 hv4 okk.kind (by simp [xal];omega)).mono ?_
 rintro en w6 ⟨v6,rfl,hv6,ow6⟩
 skip
 refine hK.out _ _ (ow6.keep _ _ _ hX xgb) ?_
 clear hK K
 try simp only [qp,qa,qb,qc]
 replace hX:=ow6.keep _ _ _ hX xgb
 replace oB:=oB.trans ow6
 refine xam _ rfl (fun K hK=>?_)
 go_simp
 refine (xcw base v6 _ o.obj w6 hv6 okk.obj (by simp [xal];omega)).mono ?_
 rintro en w7 ⟨v7,rfl,hv7,ow7⟩
 skip
 refine hK.out _ _ (ow7.keep _ _ _ hX xgb) ?_
 clear hK K
 try simp only [qp,qa,qb,qc]
 replace hX:=ow7.keep _ _ _ hX xgb
 replace oB:=oB.trans ow7
 refine xam _ rfl (fun K hK=>?_)
 go_simp
 refine (xcw base v7 _ o.pos w7 hv7 okk.pos (by simp [xal];omega)).mono ?_
 rintro en w8 ⟨v8,rfl,hv8,ow8⟩
 skip
 refine hK.out _ _ (ow8.keep _ _ _ hX xgb) ?_
 clear hK K
 try simp only [qp,qa,qb,qc]
 replace hX:=ow8.keep _ _ _ hX xgb
 replace oB:=oB.trans ow8
 refine xam _ rfl (fun K hK=>?_)
 go_simp
 refine (rtext_any base v8 _ o.data w8 hv8 hd80 (by simp [xal];omega)).mono ?_
 rintro en w9 ⟨v9,rfl,hv9,ow9⟩
 skip
 refine hK.out _ _ (ow9.keep _ _ _ hX xgb) ?_
 clear hK K
 try simp only [qp,qa,qb,qc]
 replace oB:=oB.trans ow9
 clear ow6 ow7 ow8 ow9 hv4 hv6 hv7 hv8
 iterate 1
  first
   | (refine xad _ rfl (by rfl) ?_)
   | (refine xaa _ _ rfl (.inl ⟨by rfl,fun W hS=>by clear hS;go_simp;try with_reducible rfl⟩) ?_)
  try simp only [qp,qa,qb,qc]
 refine xbf ?_
 replace oB:Hid _:=oB
 have hfin:Hid (OwnV w9 base v9 (s ++ opB o)):=by
  have e:s ++ opB o = s ++ putB o.client 1 ++ putB o.seq 4 ++ putB o.kind 1 ++ putB o.obj 1 ++ putB o.pos 1 ++ textB o.data:=by unfold opB;simp only [List.append_assoc]
  rw [e]
  exact hv9
 clear hv9
 go_wp2
 go_ret
 exact ⟨_,rfl,hfin.out,oB.out⟩
theorem Has.entc (k:Nat) {w:World} {g:Nat} {e:EntV} (h:Has w g 41 (entC e)) {v:Value} (hv:(entL e)[k]? = some v):w.cell? ⟨g,k,none⟩ = some v:=by
 rw [h.cell k]
 unfold entC
 rw [List.getElem?_toArray]
 exact hv
set_option maxHeartbeats 4000000 in
theorem rent_any (base:Nat) (v:Value) (s:List UInt8) (x:EntV) (w:World) (h:OwnV w base v s) (hx:EntG x) (hl:s.length ≤ 70000):Calls Tryz.prog 35 #[v,.agg (entC x)] w (Puts base w s (entB x)):=by
 obtain ⟨w1,hw1,hX,hb⟩:=xbr w 41 (entC x)
 have hbase:=h.2.1
 have hv:=h.later hb
 have oB:OffB base w w1:=OffB.of hb hbase
 have k1:=hx.since
 have k2:=hx.n
 have k3:=hx.op
 clear h hb hx
 go_enter Tryz.func35,Tryz.ntmps35
 go_wp2_with fail
 clear hw1
 refine xas (fun W=>Has W w.heap.size 41 (entC x)) (Plan.of [(0,true),(1,true),(2,true),(4,true),(5,true),(7,true),(8,true),(3,false),(6,false),(9,false),(10,true)] .done) (by kernel_rfl) (by kernel_rfl) (by kernel_rfl) (by kernel_rfl) hX.drew ?_
 replace hX:=hX.drew
 replace hv:=hv.drew
 replace oB:OffB base w w1.drew:=oB.trans (OffB.of (Below.refl _ _).drew hv.2.1)
 generalize w1.drew = w2 at *
 iterate 2
  first
   | (refine xad _ rfl (by rfl) ?_)
   | (refine xaa _ _ rfl (.inl ⟨by rfl,fun W hS=>by clear hS;go_simp;try with_reducible rfl⟩) ?_)
  try simp only [qp,qa,qb,qc]
 iterate 1
  first
   | (refine xad _ rfl (by rfl) ?_)
   | (refine xaa _ _ rfl (.inl ⟨by rfl,fun W hS=>by have z:=Has.entc 0 hS rfl;go_simp;try with_reducible rfl⟩) ?_)
  try simp only [qp,qa,qb,qc]
 iterate 1
  first
   | (refine xad _ rfl (by rfl) ?_)
   | (refine xaa _ _ rfl (.inl ⟨by rfl,fun W hS=>by clear hS;go_simp;try with_reducible rfl⟩) ?_)
  try simp only [qp,qa,qb,qc]
 iterate 1
  first
   | (refine xad _ rfl (by rfl) ?_)
   | (refine xaa _ _ rfl (.inl ⟨by rfl,fun W hS=>by have z:=Has.entc 1 hS rfl;go_simp;try with_reducible rfl⟩) ?_)
  try simp only [qp,qa,qb,qc]
 iterate 1
  first
   | (refine xad _ rfl (by rfl) ?_)
   | (refine xaa _ _ rfl (.inl ⟨by rfl,fun W hS=>by clear hS;go_simp;try with_reducible rfl⟩) ?_)
  try simp only [qp,qa,qb,qc]
 refine xaa _ (.agg (opC x.op)) rfl (xaj (by rfl) 39 _ rfl w.heap.size 2 rfl (opL x.op) _ Tryz.underlying39 rfl (xca x.op) (fun W hS=>hS.ent_op)) ?_
 try simp only [qp,qa,qb,qc]
 refine xam _ rfl (fun K hK=>?_)
 go_simp
 refine (xcs base v s x.since w2 hv k1 (by omega)).mono ?_
 rintro en w3 ⟨v3,rfl,hv3,ow3⟩
 skip
 refine hK.out _ _ (ow3.keep _ _ _ hX ent_byte) ?_
 clear hK K
 try simp only [qp,qa,qb,qc]
 replace hX:=ow3.keep _ _ _ hX ent_byte
 replace oB:=oB.trans ow3
 refine xam _ rfl (fun K hK=>?_)
 go_simp
 refine (xcs base v3 _ x.n w3 hv3 k2 (by simp [xal];omega)).mono ?_
 rintro en w4 ⟨v4,rfl,hv4,ow4⟩
 skip
 refine hK.out _ _ (ow4.keep _ _ _ hX ent_byte) ?_
 clear hK K
 try simp only [qp,qa,qb,qc]
 replace hX:=ow4.keep _ _ _ hX ent_byte
 replace oB:=oB.trans ow4
 refine xam _ rfl (fun K hK=>?_)
 go_simp
 refine (rop_any base v4 _ x.op w4 hv4 k3 (by simp [xal];omega)).mono ?_
 rintro en w5 ⟨v5,rfl,hv5,ow5⟩
 skip
 refine hK.out _ _ (ow5.keep _ _ _ hX ent_byte) ?_
 clear hK K
 try simp only [qp,qa,qb,qc]
 replace oB:=oB.trans ow5
 clear ow3 ow4 ow5 hv hv3 hv4
 iterate 1
  first
   | (refine xad _ rfl (by rfl) ?_)
   | (refine xaa _ _ rfl (.inl ⟨by rfl,fun W hS=>by clear hS;go_simp;try with_reducible rfl⟩) ?_)
  try simp only [qp,qa,qb,qc]
 refine xbf ?_
 replace oB:Hid _:=oB
 have hfin:Hid (OwnV w5 base v5 (s ++ entB x)):=by
  have e:s ++ entB x = s ++ putB x.since 4 ++ putB x.n 4 ++ opB x.op:=by unfold entB;simp only [List.append_assoc]
  rw [e]
  exact hv5
 clear hv5
 go_wp2
 go_ret
 exact ⟨_,rfl,hfin.out,oB.out⟩
theorem entsB_app (a b:List EntV):entsB (a ++ b) = entsB a ++ entsB b:=by
 induction a with
 | nil=>rfl
 | cons x a ih =>
  show entB x ++ entsB (a ++ b) = entB x ++ entsB a ++ entsB b
  rw [ih,List.append_assoc]
theorem entsB_take (l:List EntV) (n:Nat) (h:n < l.length):entsB (l.take (n + 1)) = entsB (l.take n) ++ entB l[n]:=by
 rw [List.take_succ_eq_append_getElem h,entsB_app]
 show _ ++ (entB l[n] ++ []) = _
 rw [List.append_nil]
set_option maxHeartbeats 4000000 in
theorem rlog_any (base:Nat) (v:Value) (s:List UInt8) (l:List EntV) (ao:Option Addr) (c:Nat) (w:World) (h:OwnV w base v s) (hs:∀ W,OffB base w W → Sl W ao c 8 (entR l)) (hx:∀ e ∈ l,EntG e) (h6:l.length ≤ 6) (hl:s.length ≤ 60000):Calls Tryz.prog 61 #[v,.slice ao l.length c] w (Puts base w s (logB l)):=by
 have hs0:=hs w (OffB.refl _ _)
 have hle:=hs0.ent_le
 have hcap:=hs0.cap
 have hlw:((l.length:Nat):Int) % 256 = (l.length:Int):=by omega
 have h6I:(l.length:Int) ≤ 6:=by omega
 have hone:=xcw base v s l.length w h (by omega) (by omega)
 replace hone:Hid _:=hone
 replace hs:Hid _:=hs
 clear h hs0
 go_enter Tryz.func61,Tryz.ntmps61
 go_wp2_with fail
 refine Calls.mono hone.out ?_
 rintro e w1 ⟨v1,rfl,hv1,o1⟩
 clear hone
 have hmid:Hid (∀ n,n ≤ 6 → (s ++ putB l.length 1 ++ entsB (l.take n)).length ≤ 70000):=fun n hn=>by
  have hE:=entsB_length (l.take n) (fun e he=>hx e (List.mem_of_mem_take he))
  have:(l.take n).length ≤ 6:=by rw [List.length_take];omega
  simp only [List.length_append,xal]
  omega
 go_wp2
 go_loopw [0,5] (fun u i wr=>∃ n:Nat,n ≤ l.length ∧ i = .int .i64 n ∧ OwnV wr base u (s ++ putB l.length 1 ++ entsB (l.take n)) ∧ OffB base w wr) (fun _ i _=>l.length - (intOf i).toNat)
 case atStart=>exact ⟨0,Nat.zero_le _,rfl,by simpa [entsB] using hv1,o1⟩
 case round =>
  clear hv1 o1
  obtain ⟨n,hn,rfl,hv,o1⟩:=hrel
  by_cases hlt:n < l.length
  ·cases ao with
   | none=>have:=(hs.out w (OffB.refl _ _)).nil rfl;omega
   | some ad =>
    have hx1:=ent_at (hs.out wr o1) n hlt
    have hxe:=hx l[n] (List.getElem_mem hlt)
    have hcall:=rent_any base _ _ l[n] wr hv hxe (hmid.out n (by omega))
    have hnext:Hid _:=entsB_take l n hlt
    have hltI:(n:Int) < (l.length:Int):=by omega
    generalize l[n] = x at *
    replace hcall:Hid _:=hcall
    replace o1:Hid _:=o1
    clear hv hxe
    go_wp2_with (first
     | (refine xei (by rfl) 41 _ rfl _ rfl (entL x) _ ?hg Tryz.underlying41 rfl (xax x) ?_;(case hg=>exact hx1))
     | fail)
    refine Calls.mono hcall.out ?_
    rintro e w2 ⟨v2,rfl,hv2,o2⟩
    clear hcall hx1
    have hfin:Hid (OwnV w2 base v2 (s ++ putB l.length 1 ++ entsB (l.take (n + 1)))):=by rw [hnext.out,← List.append_assoc];exact hv2
    have o3:Hid (OffB base w w2):=o1.out.trans o2
    clear hv2 o2 o1
    go_wp2
    go_roundw
    case rel=>exact ⟨n + 1,by omega,by go_num,hfin.out,o3.out⟩
    case measure=>simp [intOf];omega
  ·have e5:n = l.length:=by omega
   subst e5
   rw [List.take_length] at hv
   rw [show s ++ putB l.length 1 ++ entsB l = s ++ logB l by unfold logB;rw [List.append_assoc]] at hv
   replace hv:Hid _:=hv
   replace o1:Hid _:=o1
   go_wp2
   go_ret
   exact ⟨_,rfl,hv.out,o1.out⟩

theorem xfv:(44:TypeId) ≠ 5:=by decide
theorem obj_byte:(29:TypeId) ≠ 5:=by decide
def atrV (x:ObjV) (k:Nat):List UInt8:=if k = 0 then x.a0 else if k = 1 then x.a1 else x.a2
def atrsB (x:ObjV):Nat → List UInt8
 | 0=>[]
 | k + 1=>atrsB x k ++ textB (atrV x k)
theorem atrs_3 (x:ObjV):atrsB x 3 = textB x.a0 ++ (textB x.a1 ++ textB x.a2):=by simp [atrsB,atrV]
def objN (b:BaseV) (n:Nat):ObjV:=if h:n < 6 then b.obj ⟨n,h⟩ else b.obj 0
def lastN (b:BaseV) (n:Nat):LastV:=if h:n < 3 then b.last ⟨n,h⟩ else b.last 0
def obsB (b:BaseV):Nat → List UInt8
 | 0=>[]
 | n + 1=>obsB b n ++ obB (objN b n)
def lstsB (b:BaseV):Nat → List UInt8
 | 0=>[]
 | n + 1=>lstsB b n ++ lstB (lastN b n)
theorem bsB_is (b:BaseV):bsB b = obsB b 6 ++ lstsB b 3:=by
 have e0:objN b 0 = b.obj 0:=rfl
 have e1:objN b 1 = b.obj 1:=rfl
 have e2:objN b 2 = b.obj 2:=rfl
 have e3:objN b 3 = b.obj 3:=rfl
 have e4:objN b 4 = b.obj 4:=rfl
 have e5:objN b 5 = b.obj 5:=rfl
 have f0:lastN b 0 = b.last 0:=rfl
 have f1:lastN b 1 = b.last 1:=rfl
 have f2:lastN b 2 = b.last 2:=rfl
 unfold bsB
 simp only [obsB,lstsB,e0,e1,e2,e3,e4,e5,f0,f1,f2,List.nil_append,List.append_assoc]
theorem objN_G {b:BaseV} (h:BsG b) (n:Nat):ObG (objN b n):=by
 unfold objN
 split
 ·exact h.obj _
 ·exact h.obj _
theorem obs_len {b:BaseV} (h:BsG b):∀ n,(obsB b n).length ≤ 73 * n
 | 0=>Nat.le_refl _
 | n + 1=>by
  have h1:=obs_len h n
  have h2:=xfh (objN_G h n)
  show (obsB b n ++ obB (objN b n)).length ≤ _
  rw [List.length_append]
  omega
theorem lsts_len (b:BaseV):∀ n,(lstsB b n).length = 5 * n
 | 0=>rfl
 | n + 1=>by
  have h1:=lsts_len b n
  show (lstsB b n ++ lstB (lastN b n)).length = _
  rw [List.length_append,lstB_length]
  omega
theorem atrs_len {x:ObjV} (h:ObG x):∀ n,(atrsB x n).length ≤ 18 * n
 | 0=>Nat.le_refl _
 | n + 1=>by
  have h1:=atrs_len h n
  have h2:(atrV x n).length ≤ 16:=by
   unfold atrV
   split
   ·exact h.a0
   ·split
    ·exact h.a1
    ·exact h.a2
  show (atrsB x n ++ textB (atrV x n)).length ≤ _
  rw [List.length_append,xdg]
  omega
section
variable {w:World} {g:Nat} {x:StV} {ao:Option Addr} {c:Nat}
theorem Has.stc (k:Nat) (h:Has w g 44 (stC x ao c)) {v:Value} (hv:(stL x ao c)[k]? = some v):w.cell? ⟨g,k,none⟩ = some v:=by
 rw [h.cell k]
 unfold stC
 rw [List.getElem?_toArray]
 exact hv
theorem Has.st_obj (h:Has w g 44 (stC x ao c)) (n:Nat) (hn:n < 6):w.rangeAt g (1 + n * 5) (objL (objN x.base n)):=h.range _ _ fun j v hj=>by
 unfold stC
 rw [List.getElem?_toArray]
 match n,hn,j,hj with
 | 0,_,0,hj=>exact hj
 | 0,_,1,hj=>exact hj
 | 0,_,2,hj=>exact hj
 | 0,_,3,hj=>exact hj
 | 0,_,4,hj=>exact hj
 | 1,_,0,hj=>exact hj
 | 1,_,1,hj=>exact hj
 | 1,_,2,hj=>exact hj
 | 1,_,3,hj=>exact hj
 | 1,_,4,hj=>exact hj
 | 2,_,0,hj=>exact hj
 | 2,_,1,hj=>exact hj
 | 2,_,2,hj=>exact hj
 | 2,_,3,hj=>exact hj
 | 2,_,4,hj=>exact hj
 | 3,_,0,hj=>exact hj
 | 3,_,1,hj=>exact hj
 | 3,_,2,hj=>exact hj
 | 3,_,3,hj=>exact hj
 | 3,_,4,hj=>exact hj
 | 4,_,0,hj=>exact hj
 | 4,_,1,hj=>exact hj
 | 4,_,2,hj=>exact hj
 | 4,_,3,hj=>exact hj
 | 4,_,4,hj=>exact hj
 | 5,_,0,hj=>exact hj
 | 5,_,1,hj=>exact hj
 | 5,_,2,hj=>exact hj
 | 5,_,3,hj=>exact hj
 | 5,_,4,hj=>exact hj
theorem Has.st_seq (h:Has w g 44 (stC x ao c)) (n:Nat) (hn:n < 3):w.cell? ⟨g,31 + n * 3,none⟩ = some (.int .u32 ((lastN x.base n).seq:Nat)):=by
 refine h.stc _ ?_
 match n,hn with
 | 0,_=>rfl
 | 1,_=>rfl
 | 2,_=>rfl
theorem Has.st_code (h:Has w g 44 (stC x ao c)) (n:Nat) (hn:n < 3):w.cell? ⟨g,31 + n * 3 + 1,none⟩ = some (.int .u8 ((lastN x.base n).r.code:Nat)):=by
 refine h.stc _ ?_
 match n,hn with
 | 0,_=>rfl
 | 1,_=>rfl
 | 2,_=>rfl
end
theorem Has.oc (k:Nat) {w:World} {g:Nat} {x:ObjV} (h:Has w g 29 (objC x)) {v:Value} (hv:(objL x)[k]? = some v):w.cell? ⟨g,k,none⟩ = some v:=by
 rw [h.cell k]
 unfold objC
 rw [List.getElem?_toArray]
 exact hv
theorem Has.oc_atr {w:World} {g:Nat} {x:ObjV} (h:Has w g 29 (objC x)) (k:Nat) (hk:k < 3):w.cell? ⟨g,2 + k,none⟩ = some (.string (mkS (atrV x k))):=by
 refine Has.oc _ h ?_
 match k,hk with
 | 0,_=>rfl
 | 1,_=>rfl
 | 2,_=>rfl
set_option maxHeartbeats 8000000 in
theorem rputst_any (base:Nat) (v:Value) (s:List UInt8) (x:StV) (ao:Option Addr) (c:Nat) (w:World) (h:OwnV w base v s) (hs:∀ W,OffB base w W → Sl W ao c 8 (entR x.log)) (hx:StOk x) (hl:s.length ≤ 30000):Calls Tryz.prog 20 #[v,.agg (stC x ao c)] w (Puts base w s (if isSt x = true then statB x else [])):=by
 obtain ⟨T,hT⟩:∃ T,T = (if isSt x = true then statB x else []):=⟨_,rfl⟩
 rw [← hT]
 replace hT:Hid _:=hT
 obtain ⟨w1,hw1,hX,hb⟩:=xbr w 44 (stC x ao c)
 have hbase:=h.2.1
 have hv:=h.later hb
 have oB:OffB base w w1:=OffB.of hb hbase
 have hS1:=hs w1 oB
 replace hs:Hid _:=hs
 clear h hb
 go_enter Tryz.func20,Tryz.ntmps20
 go_wp2_with (first
  | (refine xab (by rfl) 44 _ rfl w.heap.size rfl 44 (stC x ao c) _ Tryz.underlying44 rfl (xcg x ao c) ?hg ?_;(case hg=>exact hX))
  | fail)
 clear hw1
 refine (xgw x ao c w1 hx hS1).mono ?_
 rintro e w2 ⟨rfl,hq⟩
 replace hX:=hX.later hq
 replace hv:=hv.later hq
 replace oB:OffB base w w2:=oB.trans (OffB.of hq (Nat.le_trans hbase oB.below.size))
 clear hq hS1
 cases hi:isSt x with
 | false =>
  have hfin:Hid (OwnV w2 base v (s ++ T)):=by rw [hT.out,hi,if_neg (by decide),List.append_nil];exact hv
  replace oB:Hid _:=oB
  clear hv
  go_wp2
  go_ret
  exact ⟨_,rfl,hfin.out,oB.out⟩
 | true =>
 have hG:=isSt_G hi hx
 have k1:=hG.started
 have k2:=hG.since
 have k3:=hG.n
 have kB:=hG.base
 have k6:=hG.len
 have kL:=hG.log
 have hT':Hid (T = statB x):=by show _ = _;rw [hT.out,hi,if_pos rfl]
 clear hx hi hG hT
 go_wp2_with fail
 refine xas (fun W=>Has W w.heap.size 44 (stC x ao c)) (Plan.of [(0,true),(1,true),(2,true),(4,true),(5,true),(6,true),(8,true),(9,true),(10,true),(3,false),(7,false),(11,false),(12,true)] .done) (by kernel_rfl) (by kernel_rfl) (by kernel_rfl) (by kernel_rfl) hX.drew ?_
 replace hX:=hX.drew
 replace hv:=hv.drew
 replace oB:OffB base w w2.drew:=oB.trans (OffB.of (Below.refl _ _).drew hv.2.1)
 generalize w2.drew = w3 at *
 iterate 2
  first
   | (refine xad _ rfl (by rfl) ?_)
   | (refine xaa _ _ rfl (.inl ⟨by rfl,fun W hS=>by clear hS;go_simp;try with_reducible rfl⟩) ?_)
  try simp only [qp,qa,qb,qc]
 iterate 1
  first
   | (refine xad _ rfl (by rfl) ?_)
   | (refine xaa _ _ rfl (.inl ⟨by rfl,fun W hS=>by have z:=hS.st_started;go_simp;try with_reducible rfl⟩) ?_)
  try simp only [qp,qa,qb,qc]
 iterate 2
  first
   | (refine xad _ rfl (by rfl) ?_)
   | (refine xaa _ _ rfl (.inl ⟨by rfl,fun W hS=>by clear hS;go_simp;try with_reducible rfl⟩) ?_)
  try simp only [qp,qa,qb,qc]
 iterate 1
  first
   | (refine xad _ rfl (by rfl) ?_)
   | (refine xaa _ _ rfl (.inl ⟨by rfl,fun W hS=>by have z:=hS.st_tail_since;go_simp;try with_reducible rfl⟩) ?_)
  try simp only [qp,qa,qb,qc]
 iterate 2
  first
   | (refine xad _ rfl (by rfl) ?_)
   | (refine xaa _ _ rfl (.inl ⟨by rfl,fun W hS=>by clear hS;go_simp;try with_reducible rfl⟩) ?_)
  try simp only [qp,qa,qb,qc]
 iterate 1
  first
   | (refine xad _ rfl (by rfl) ?_)
   | (refine xaa _ _ rfl (.inl ⟨by rfl,fun W hS=>by have z:=hS.st_tail_n;go_simp;try with_reducible rfl⟩) ?_)
  try simp only [qp,qa,qb,qc]
 refine xam _ rfl (fun K hK=>?_)
 go_simp
 refine (xcs base v s x.started w3 hv k1 (by omega)).mono ?_
 rintro en w4 ⟨v4,rfl,hv4,ow4⟩
 refine hK.out _ _ (ow4.keep _ _ _ hX xfv) ?_
 clear hK K
 try simp only [qp,qa,qb,qc]
 replace hX:=ow4.keep _ _ _ hX xfv
 replace oB:=oB.trans ow4
 refine xam _ rfl (fun K hK=>?_)
 go_simp
 refine (xcs base v4 _ x.tail.since w4 hv4 k2 (by simp [xal];omega)).mono ?_
 rintro en w5 ⟨v5,rfl,hv5,ow5⟩
 refine hK.out _ _ (ow5.keep _ _ _ hX xfv) ?_
 clear hK K
 try simp only [qp,qa,qb,qc]
 replace hX:=ow5.keep _ _ _ hX xfv
 replace oB:=oB.trans ow5
 refine xam _ rfl (fun K hK=>?_)
 go_simp
 refine (xcs base v5 _ x.tail.n w5 hv5 k3 (by simp [xal];omega)).mono ?_
 rintro en w6 ⟨v6,rfl,hv6,ow6⟩
 refine hK.out _ _ (ow6.keep _ _ _ hX xfv) ?_
 clear hK K
 try simp only [qp,qa,qb,qc]
 replace hX:=ow6.keep _ _ _ hX xfv
 replace oB:=oB.trans ow6
 clear ow4 ow5 ow6 hv hv4 hv5
 iterate 1
  first
   | (refine xad _ rfl (by rfl) ?_)
   | (refine xaa _ _ rfl (.inl ⟨by rfl,fun W hS=>by clear hS;go_simp;try with_reducible rfl⟩) ?_)
  try simp only [qp,qa,qb,qc]
 refine xbf ?_
 obtain ⟨S,hS⟩:∃ S,S = s ++ putB x.started 4 ++ putB x.tail.since 4 ++ putB x.tail.n 4:=⟨_,rfl⟩
 have hSl:S.length ≤ 30012:=by rw [hS];simp [xal];omega
 rw [← hS] at hv6
 replace hS:Hid _:=hS
 have hobl:Hid (∀ n,n ≤ 6 → (S ++ obsB x.base n).length ≤ 31000):=fun n hn=>by
  have:=obs_len kB n
  rw [List.length_append]
  omega
 have kBo:Hid (∀ n,ObG (objN x.base n)):=fun n=>objN_G kB n
 go_wp2
 go_loopw [0,5] (fun u i wr=>∃ n:Nat,n ≤ 6 ∧ i = .int .i64 n ∧ OwnV wr base u (S ++ obsB x.base n) ∧ OffB base w wr ∧ Has wr w.heap.size 44 (stC x ao c)) (fun _ i _=>6 - (intOf i).toNat)
 case atStart=>exact ⟨0,by decide,rfl,by simpa [obsB] using hv6,oB,hX⟩
 case round =>
  clear hv6 oB hX
  obtain ⟨n,hn,rfl,hv,oB,hX⟩:=hrel
  by_cases hlt:n < 6
  ·have hltI:(n:Int) < 6:=by omega
   have hrg:=hX.st_obj n hlt
   have hoG:=kBo.out n
   have hln:=hobl.out n (by omega)
   have hnext:Hid (obsB x.base (n + 1) = obsB x.base n ++ obB (objN x.base n)):=rfl
   generalize objN x.base n = y at *
   obtain ⟨w7,hw7,hY,hq7⟩:=xcm wr 29 (objC obj0) (objC y)
   have hX7:=hX.later hq7
   have hv7:=hv.later hq7
   have oB7:OffB base w w7:=oB.trans (OffB.of hq7 hv.2.1)
   replace oB7:Hid _:=oB7
   clear hq7 hv oB hX
   go_wp2_with (first
    | (refine xae (by rfl) 29 _ rfl w.heap.size (1 + n * 5) rfl (objL y) _ ?hg Tryz.underlying29 rfl (xbq y) ?_;(case hg=>exact hrg))
    | (refine xac (by rfl) 29 rfl (objC obj0) xdk ?_)
    | (refine xai (by rfl) 29 _ _ rfl wr.heap.size rfl (objC y) rfl 29 (objC obj0) (xbq y) rfl (xdd y) ?hg w7 ?hW ?_;(case hg=>exact Has.new _ _ _);(case hW=>exact hw7);clear hw7)
    | fail)
   try simp only [qp,qa,qb,qc]
   refine xas (fun W=>Has W wr.heap.size 29 (objC y) ∧ Has W w.heap.size 44 (stC x ao c)) (Plan.of [(0,true),(1,true),(2,true),(5,true),(6,true),(3,false),(4,false),(7,false),(8,true)] .done) (by kernel_rfl) (by kernel_rfl) (by kernel_rfl) (by kernel_rfl) ⟨hY.drew,hX7.drew⟩ ?_
   replace hY:=hY.drew
   replace hX7:=hX7.drew
   replace hv7:=hv7.drew
   replace oB7:Hid (OffB base w w7.drew):=oB7.out.trans (OffB.of (Below.refl _ _).drew hv7.2.1)
   generalize w7.drew = w8 at *
   iterate 2
    first
     | (refine xad _ rfl (by rfl) ?_)
     | (refine xaa _ _ rfl (.inl ⟨by rfl,fun W hS=>by clear hS;go_simp;try with_reducible rfl⟩) ?_)
    try simp only [qp,qa,qb,qc]
   iterate 1
    first
     | (refine xad _ rfl (by rfl) ?_)
     | (refine xaa _ _ rfl (.inl ⟨by rfl,fun W hS=>by have z:=Has.oc 0 hS.1 rfl;go_simp;try with_reducible rfl⟩) ?_)
    try simp only [qp,qa,qb,qc]
   iterate 1
    first
     | (refine xad _ rfl (by rfl) ?_)
     | (refine xaa _ _ rfl (.inl ⟨by rfl,fun W hS=>by clear hS;go_simp;try with_reducible rfl⟩) ?_)
    try simp only [qp,qa,qb,qc]
   iterate 1
    first
     | (refine xad _ rfl (by rfl) ?_)
     | (refine xaa _ _ rfl (.inl ⟨by rfl,fun W hS=>by have z:W.cell? ⟨wr.heap.size,1,none⟩ = some (.string (mkS y.data)):=Has.oc 1 hS.1 rfl;go_simp;try with_reducible rfl⟩) ?_)
    try simp only [qp,qa,qb,qc]
   obtain ⟨fl,hfl⟩:∃ fl:Nat,fl = if y.there = true then 1 else 0:=⟨_,rfl⟩
   have hfl2:fl < 256:=by rw [hfl];split <;> decide
   have hbit:=bit_any y.there w8
   rw [← hfl] at hbit
   replace hfl:Hid _:=hfl
   refine xam _ rfl (fun K hK=>?_)
   go_simp
   refine hbit.mono ?_
   rintro en w9 ⟨rfl,rfl⟩
   refine hK.out _ _ ⟨hY,hX7⟩ ?_
   clear hK K hbit
   try simp only [qp,qa,qb,qc]
   refine xam _ rfl (fun K hK=>?_)
   go_simp
   refine (xcw base _ _ fl w9 hv7 hfl2 (by omega)).mono ?_
   rintro en w10 ⟨v10,rfl,hv10,o10⟩
   replace hX7:=o10.keep _ _ _ hX7 xfv
   replace hY:=o10.keep _ _ _ hY obj_byte
   refine hK.out _ _ ⟨hY,hX7⟩ ?_
   clear hK K
   try simp only [qp,qa,qb,qc]
   have hd80:y.data.length ≤ 80:=by have:=hoG.data;omega
   refine xam _ rfl (fun K hK=>?_)
   go_simp
   refine (rtext_any base v10 _ y.data w10 hv10 hd80 (by rw [List.length_append,xal];omega)).mono ?_
   rintro en w11 ⟨v11,rfl,hv11,o11⟩
   replace hX7:=o11.keep _ _ _ hX7 xfv
   replace hY:=o11.keep _ _ _ hY obj_byte
   refine hK.out _ _ ⟨hY,hX7⟩ ?_
   clear hK K
   try simp only [qp,qa,qb,qc]
   iterate 1
    first
     | (refine xad _ rfl (by rfl) ?_)
     | (refine xaa _ _ rfl (.inl ⟨by rfl,fun W hS=>by clear hS;go_simp;try with_reducible rfl⟩) ?_)
    try simp only [qp,qa,qb,qc]
   refine xbf ?_
   have oB9:Hid (OffB base w w11):=(oB7.out.trans o10).trans o11
   obtain ⟨S2,hS2⟩:∃ S2,S2 = S ++ obsB x.base n ++ putB fl 1 ++ textB y.data:=⟨_,rfl⟩
   rw [← hS2] at hv11
   have hS2l:S2.length ≤ 31100:=by rw [hS2];simp only [List.length_append,xal,xdg];rw [List.length_append] at hln;omega
   have hdone:Hid (S2 ++ atrsB y 3 = S ++ obsB x.base (n + 1)):=by
    show _ = _
    rw [hnext.out,hS2,atrs_3,hfl.out]
    unfold obB flagB
    simp only [List.append_assoc]
   replace hS2:Hid _:=hS2
   have hal:Hid (∀ k,k ≤ 3 → (S2 ++ atrsB y k).length ≤ 32000):=fun k hk=>by
    have:=atrs_len hoG k
    rw [List.length_append]
    omega
   have ha80:Hid (∀ k,(atrV y k).length ≤ 80):=fun k=>by
    have h0:=hoG.a0
    have h1:=hoG.a1
    have h2:=hoG.a2
    unfold atrV
    split
    ·omega
    ·split <;> omega
   obtain ⟨g7,hg7⟩:∃ g,g = wr.heap.size:=⟨_,rfl⟩
   rw [← hg7] at hY ⊢
   clear oB7 o10 o11 hv7 hv10 hln hrg hg7
   obtain ⟨W2,hW2⟩:∃ W2,W2 = wr:=⟨_,rfl⟩
   go_wp2
   go_loopw [0,7] (fun u i wq=>∃ k:Nat,k ≤ 3 ∧ i = .int .i64 k ∧ OwnV wq base u (S2 ++ atrsB y k) ∧ OffB base w wq ∧ Has wq w.heap.size 44 (stC x ao c) ∧ Has wq g7 29 (objC y)) (fun _ i _=>3 - (intOf i).toNat)
   case atStart=>exact ⟨0,by decide,rfl,by simpa [atrsB] using hv11,oB9.out,hX7,hY⟩
   case round =>
    clear hv11 oB9 hX7 hY
    obtain ⟨k,hk,rfl,hv,oB,hX,hY⟩:=hrel
    by_cases hkl:k < 3
    ·have hkI:(k:Int) < 3:=by omega
     have hcell:=hY.oc_atr k hkl
     have hcall:=rtext_any base _ _ (atrV y k) wr hv (ha80.out k) (by have:=hal.out k (by omega);omega)
     have hst:Hid (atrsB y (k + 1) = atrsB y k ++ textB (atrV y k)):=rfl
     generalize atrV y k = tx at *
     replace hcall:Hid _:=hcall
     replace oB:Hid _:=oB
     clear hv
     go_wp2_with fail
     refine Calls.mono hcall.out ?_
     rintro en w12 ⟨v12,rfl,hv12,o12⟩
     clear hcall hcell
     have hfin:Hid (OwnV w12 base v12 (S2 ++ atrsB y (k + 1))):=by rw [hst.out,← List.append_assoc];exact hv12
     have oC:Hid (OffB base w w12):=oB.out.trans o12
     have hX12:=o12.keep _ _ _ hX xfv
     have hY12:=o12.keep _ _ _ hY obj_byte
     clear hv12 o12 oB hX hY
     go_wp2
     go_roundw
     case rel=>exact ⟨k + 1,by omega,by go_num,hfin.out,oC.out,hX12,hY12⟩
     case measure=>simp [intOf];omega
    ·have e3:k = 3:=by omega
     subst e3
     rw [hdone.out] at hv
     replace hv:Hid _:=hv
     replace oB:Hid _:=oB
     clear hY
     go_wp2
     go_roundw
     case rel=>exact ⟨n + 1,by omega,by go_num,hv.out,oB.out,hX⟩
     case measure=>simp [intOf];omega
  ·have e6:n = 6:=by omega
   rw [e6] at hv
   have hgeI:¬ (n:Int) < 6:=by omega
   have hgeD:decide ((n:Int) < 6) = false:=decide_eq_false hgeI
   clear e6 hn
   obtain ⟨n5,hn5⟩:∃ k,k = n:=⟨_,rfl⟩
   rw [← hn5] at hgeI hgeD ⊢
   clear hlt hn5
   obtain ⟨S6,hS6⟩:∃ S6,S6 = S ++ obsB x.base 6:=⟨_,rfl⟩
   rw [← hS6] at hv
   have hS6l:S6.length ≤ 31000:=by rw [hS6];exact hobl.out 6 (by decide)
   replace hS6:Hid _:=hS6
   have hll:Hid (∀ n,n ≤ 3 → (S6 ++ lstsB x.base n).length ≤ 32000):=fun n hn=>by
    have:=lsts_len x.base n
    rw [List.length_append]
    omega
   have kq:Hid (∀ n,(lastN x.base n).seq < 4294967296 ∧ (lastN x.base n).r.code < 256):=fun n=>by
    unfold lastN
    split
    ·exact ⟨kB.seq _,kB.code _⟩
    ·exact ⟨kB.seq _,kB.code _⟩
   replace oB:Hid _:=oB
   obtain ⟨W2,hW2⟩:∃ W2,W2 = wr:=⟨_,rfl⟩
   go_wp2
   go_loopw [0,8] (fun u i wq=>∃ n:Nat,n ≤ 3 ∧ i = .int .i64 n ∧ OwnV wq base u (S6 ++ lstsB x.base n) ∧ OffB base w wq ∧ Has wq w.heap.size 44 (stC x ao c)) (fun _ i _=>3 - (intOf i).toNat)
   case atStart=>exact ⟨0,by decide,rfl,by simpa [lstsB] using hv,oB.out,hX⟩
   case round =>
    clear hv oB hX
    obtain ⟨n,hn,rfl,hv,oB,hX⟩:=hrel
    by_cases hlt:n < 3
    ·have hltI:(n:Int) < 3:=by omega
     obtain ⟨q1,q2⟩:=kq.out n
     have hln:=hll.out n (by omega)
     have hcs:Hid (∀ W,Has W w.heap.size 44 (stC x ao c) → W.cell? ⟨w.heap.size,31 + n * 3,none⟩ = some (.int .u32 ((lastN x.base n).seq:Nat)) ∧ W.cell? ⟨w.heap.size,31 + n * 3 + 1,none⟩ = some (.int .u8 ((lastN x.base n).r.code:Nat))):=fun W h=>⟨h.st_seq n hlt,h.st_code n hlt⟩
     have hst:Hid (lstsB x.base (n + 1) = lstsB x.base n ++ lstB (lastN x.base n)):=rfl
     generalize lastN x.base n = la at *
     go_wp2_with fail
     refine xas (fun W=>Has W w.heap.size 44 (stC x ao c)) (Plan.of [(0,true),(1,true),(2,true),(3,true),(4,true),(5,true),(6,true),(8,true),(9,true),(10,true),(11,true),(12,true),(13,true),(14,true),(7,false),(15,false),(16,true)] .done) (by kernel_rfl) (by kernel_rfl) (by kernel_rfl) (by kernel_rfl) hX.drew ?_
     replace hX:=hX.drew
     replace hv:=hv.drew
     replace oB:OffB base w wr.drew:=oB.trans (OffB.of (Below.refl _ _).drew hv.2.1)
     generalize wr.drew = w13 at *
     iterate 6
      first
       | (refine xad _ rfl (by rfl) ?_)
       | (refine xaa _ _ rfl (.inl ⟨by rfl,fun W hS=>by clear hS;go_simp;try with_reducible rfl⟩) ?_)
      try simp only [qp,qa,qb,qc]
     iterate 1
      first
       | (refine xad _ rfl (by rfl) ?_)
       | (refine xaa _ _ rfl (.inl ⟨by rfl,fun W hS=>by have z:=(hcs.out W hS).1;go_simp;try with_reducible rfl⟩) ?_)
      try simp only [qp,qa,qb,qc]
     iterate 6
      first
       | (refine xad _ rfl (by rfl) ?_)
       | (refine xaa _ _ rfl (.inl ⟨by rfl,fun W hS=>by clear hS;go_simp;try with_reducible rfl⟩) ?_)
      try simp only [qp,qa,qb,qc]
     iterate 1
      first
       | (refine xad _ rfl (by rfl) ?_)
       | (refine xaa _ _ rfl (.inl ⟨by rfl,fun W hS=>by have z:=(hcs.out W hS).2;go_simp;try with_reducible rfl⟩) ?_)
      try simp only [qp,qa,qb,qc]
     refine xam _ rfl (fun K hK=>?_)
     go_simp
     refine (xcs base _ _ la.seq w13 hv q1 (by omega)).mono ?_
     rintro en w14 ⟨v14,rfl,hv14,o14⟩
     replace hX:=o14.keep _ _ _ hX xfv
     replace oB:=oB.trans o14
     refine hK.out _ _ hX ?_
     clear hK K
     try simp only [qp,qa,qb,qc]
     refine xam _ rfl (fun K hK=>?_)
     go_simp
     refine (xcw base v14 _ la.r.code w14 hv14 q2 (by rw [List.length_append,xal];omega)).mono ?_
     rintro en w15 ⟨v15,rfl,hv15,o15⟩
     replace hX:=o15.keep _ _ _ hX xfv
     replace oB:=oB.trans o15
     refine hK.out _ _ hX ?_
     clear hK K
     try simp only [qp,qa,qb,qc]
     iterate 1
      first
       | (refine xad _ rfl (by rfl) ?_)
       | (refine xaa _ _ rfl (.inl ⟨by rfl,fun W hS=>by clear hS;go_simp;try with_reducible rfl⟩) ?_)
      try simp only [qp,qa,qb,qc]
     refine xbf ?_
     have hfin:Hid (OwnV w15 base v15 (S6 ++ lstsB x.base (n + 1))):=by
      have e:S6 ++ lstsB x.base (n + 1) = S6 ++ lstsB x.base n ++ putB la.seq 4 ++ putB la.r.code 1:=by rw [hst.out];unfold lstB;simp only [List.append_assoc]
      rw [e]
      exact hv15
     replace oB:Hid _:=oB
     clear hv hv14 hv15 o14 o15
     go_wp2
     go_roundw
     case rel=>exact ⟨n + 1,by omega,by go_num,hfin.out,oB.out,hX⟩
     case measure=>simp [intOf];omega
    ·have e3:n = 3:=by omega
     subst e3
     have hlog:=hX.st_log
     have hcall:=rlog_any base _ _ x.log ao c wr hv (fun W hW=>hs.out W (oB.trans hW)) kL k6 (by have:=hll.out 3 (by decide);omega)
     replace hcall:Hid _:=hcall
     replace oB:Hid _:=oB
     clear hv
     go_wp2_with fail
     refine Calls.mono hcall.out ?_
     rintro en w16 ⟨v16,rfl,hv16,o16⟩
     clear hcall
     have hfin:Hid (OwnV w16 base v16 (s ++ T)):=by
      have e:s ++ T = S6 ++ lstsB x.base 3 ++ logB x.log:=by
       rw [hT'.out,hS6.out,hS.out]
       unfold statB tlB
       rw [bsB_is]
       simp only [List.append_assoc]
      rw [e]
      exact hv16
     have oD:Hid (OffB base w w16):=oB.out.trans o16
     clear hv16 o16
     go_wp2
     go_ret
     exact ⟨_,rfl,hfin.out,oD.out⟩

theorem bal_byte:(24:TypeId) ≠ 5:=by decide
theorem inc_byte:(26:TypeId) ≠ 5:=by decide
theorem xfq:(46:TypeId) ≠ 5:=by decide
theorem Has.inc_n {w:World} {g:Nat} {t:TypeId} {x:IncV} {kn:Nat} (h:Has w g t (incC x)) (hk:x.n = (kn:Int)):w.cell? ⟨g,2,none⟩ = some (.int .i64 (kn:Int)):=(h.cell 2).trans (by rw [← hk];rfl)
theorem conv_int_u8 (k:Nat) (hk:k < 256):IntKind.u8.wrap (k:Int) = (k:Int):=by rw [IntKind.wrap_u8];omega
set_option maxHeartbeats 4000000 in
theorem rbal_any (base:Nat) (v:Value) (s:List UInt8) (x:BalV) (w:World) (h:OwnV w base v s) (hx:BalOk x) (hl:s.length ≤ 80000):Calls Tryz.prog 30 #[v,.agg (balC x)] w (Puts base w s (balB x)):=by
 obtain ⟨w1,hw1,hX,hb⟩:=xbr w 24 (balC x)
 have hbase:=h.2.1
 have hv:=h.later hb
 have oB:OffB base w w1:=OffB.of hb hbase
 clear h hb
 go_enter Tryz.func30,Tryz.ntmps30
 go_wp2_with fail
 clear hw1
 refine xas (fun W=>Has W w.heap.size 24 (balC x)) (Plan.of [(0,true),(1,true),(2,true),(4,true),(5,true),(3,false),(6,false),(7,true)] .done) (by kernel_rfl) (by kernel_rfl) (by kernel_rfl) (by kernel_rfl) hX.drew ?_
 replace hX:=hX.drew
 replace hv:=hv.drew
 replace oB:OffB base w _:=oB.trans (OffB.of (Below.refl _ _).drew hv.2.1)
 generalize w1.drew = w2 at *
 iterate 2
  first
   | (refine xad _ rfl (by rfl) ?_)
   | (refine xaa _ _ rfl (.inl ⟨by rfl,fun W hS=>by clear hS;go_simp;try with_reducible rfl⟩) ?_)
  try simp only [qp,qa,qb,qc]
 iterate 1
  first
   | (refine xad _ rfl (by rfl) ?_)
   | (refine xaa _ _ rfl (.inl ⟨by rfl,fun W hS=>by have z:W.cell? ⟨w.heap.size,0,none⟩ = some (.int .u32 (x.n:Int)):=(hS.cell 0).trans rfl;go_simp;try with_reducible rfl⟩) ?_)
  try simp only [qp,qa,qb,qc]
 iterate 1
  first
   | (refine xad _ rfl (by rfl) ?_)
   | (refine xaa _ _ rfl (.inl ⟨by rfl,fun W hS=>by clear hS;go_simp;try with_reducible rfl⟩) ?_)
  try simp only [qp,qa,qb,qc]
 iterate 1
  first
   | (refine xad _ rfl (by rfl) ?_)
   | (refine xaa _ _ rfl (.inl ⟨by rfl,fun W hS=>by have z:W.cell? ⟨w.heap.size,1,none⟩ = some (.int .u8 (x.who:Int)):=(hS.cell 1).trans rfl;go_simp;try with_reducible rfl⟩) ?_)
  try simp only [qp,qa,qb,qc]
 refine xam _ rfl (fun K hK=>?_)
 go_simp
 refine (xcs base v s x.n w2 hv hx.n (by omega)).mono ?_
 rintro en w3 ⟨v3,rfl,hv3,ow3⟩
 refine hK.out _ _ (ow3.keep _ _ _ hX bal_byte) ?_
 clear hK K
 try simp only [qp,qa,qb,qc]
 replace hX:=ow3.keep _ _ _ hX bal_byte
 replace oB:=oB.trans ow3
 refine xam _ rfl (fun K hK=>?_)
 go_simp
 refine (xcw base v3 _ x.who w3 hv3 hx.who (by simp [xal];omega)).mono ?_
 rintro en w4 ⟨v4,rfl,hv4,ow4⟩
 refine hK.out _ _ (ow4.keep _ _ _ hX bal_byte) ?_
 clear hK K
 try simp only [qp,qa,qb,qc]
 replace hX:=ow4.keep _ _ _ hX bal_byte
 replace oB:=oB.trans ow4
 iterate 1
  first
   | (refine xad _ rfl (by rfl) ?_)
   | (refine xaa _ _ rfl (.inl ⟨by rfl,fun W hS=>by clear hS;go_simp;try with_reducible rfl⟩) ?_)
  try simp only [qp,qa,qb,qc]
 refine xbf ?_
 rw [List.append_assoc] at hv4
 have hfin:Hid (OwnV w4 base v4 (s ++ balB x)):=hv4
 have oF:Hid (OffB base w w4):=oB
 clear hv hv3 hv4 oB ow3 ow4
 go_wp2
 go_ret
 exact ⟨_,rfl,hfin.out,oF.out⟩
set_option maxHeartbeats 4000000 in
theorem rinc_any (base:Nat) (v:Value) (s:List UInt8) (x:IncV) (w:World) (h:OwnV w base v s) (hx:IncG x) (hl:s.length ≤ 80000):Calls Tryz.prog 31 #[v,.agg (incC x)] w (Puts base w s (incB x)):=by
 obtain ⟨w1,hw1,hX,hb⟩:=xbr w 26 (incC x)
 have hbase:=h.2.1
 have hv:=h.later hb
 have oB:OffB base w w1:=OffB.of hb hbase
 obtain ⟨kn,hkn,hkl⟩:=hx.n
 have hcv:=conv_int_u8 kn hkl
 have hB:Hid (incB x = putB x.kind 1 ++ (putB x.osd 1 ++ putB kn 1)):=by
  show _ = _
  unfold incB
  rw [hkn,nat_mod hkl]
 clear h hb
 go_enter Tryz.func31,Tryz.ntmps31
 go_wp2_with fail
 clear hw1
 refine xas (fun W=>Has W w.heap.size 26 (incC x)) (Plan.of [(0,true),(1,true),(2,true),(4,true),(5,true),(7,true),(8,true),(9,true),(3,false),(6,false),(10,false),(11,true)] .done) (by kernel_rfl) (by kernel_rfl) (by kernel_rfl) (by kernel_rfl) hX.drew ?_
 replace hX:=hX.drew
 replace hv:=hv.drew
 replace oB:OffB base w _:=oB.trans (OffB.of (Below.refl _ _).drew hv.2.1)
 generalize w1.drew = w2 at *
 iterate 2
  first
   | (refine xad _ rfl (by rfl) ?_)
   | (refine xaa _ _ rfl (.inl ⟨by rfl,fun W hS=>by clear hS;go_simp;try with_reducible rfl⟩) ?_)
  try simp only [qp,qa,qb,qc]
 iterate 1
  first
   | (refine xad _ rfl (by rfl) ?_)
   | (refine xaa _ _ rfl (.inl ⟨by rfl,fun W hS=>by have z:W.cell? ⟨w.heap.size,0,none⟩ = some (.int .u8 (x.kind:Int)):=(hS.cell 0).trans rfl;go_simp;try with_reducible rfl⟩) ?_)
  try simp only [qp,qa,qb,qc]
 iterate 1
  first
   | (refine xad _ rfl (by rfl) ?_)
   | (refine xaa _ _ rfl (.inl ⟨by rfl,fun W hS=>by clear hS;go_simp;try with_reducible rfl⟩) ?_)
  try simp only [qp,qa,qb,qc]
 iterate 1
  first
   | (refine xad _ rfl (by rfl) ?_)
   | (refine xaa _ _ rfl (.inl ⟨by rfl,fun W hS=>by have z:W.cell? ⟨w.heap.size,1,none⟩ = some (.int .u8 (x.osd:Int)):=(hS.cell 1).trans rfl;go_simp;try with_reducible rfl⟩) ?_)
  try simp only [qp,qa,qb,qc]
 iterate 1
  first
   | (refine xad _ rfl (by rfl) ?_)
   | (refine xaa _ _ rfl (.inl ⟨by rfl,fun W hS=>by clear hS;go_simp;try with_reducible rfl⟩) ?_)
  try simp only [qp,qa,qb,qc]
 iterate 1
  first
   | (refine xad _ rfl (by rfl) ?_)
   | (refine xaa _ _ rfl (.inl ⟨by rfl,fun W hS=>by have z:=hS.inc_n hkn;go_simp;try with_reducible rfl⟩) ?_)
  try simp only [qp,qa,qb,qc]
 refine xaa _ (.int .u8 (kn:Int)) rfl (.inl ⟨by rfl,fun W hS=>by go_simp;try rw [hcv]⟩) ?_
 try simp only [qp,qa,qb,qc]
 refine xam _ rfl (fun K hK=>?_)
 go_simp
 refine (xcw base v s x.kind w2 hv hx.kind (by omega)).mono ?_
 rintro en w3 ⟨v3,rfl,hv3,ow3⟩
 refine hK.out _ _ (ow3.keep _ _ _ hX inc_byte) ?_
 clear hK K
 try simp only [qp,qa,qb,qc]
 replace hX:=ow3.keep _ _ _ hX inc_byte
 replace oB:=oB.trans ow3
 refine xam _ rfl (fun K hK=>?_)
 go_simp
 refine (xcw base v3 _ x.osd w3 hv3 hx.osd (by simp [xal];omega)).mono ?_
 rintro en w4 ⟨v4,rfl,hv4,ow4⟩
 refine hK.out _ _ (ow4.keep _ _ _ hX inc_byte) ?_
 clear hK K
 try simp only [qp,qa,qb,qc]
 replace hX:=ow4.keep _ _ _ hX inc_byte
 replace oB:=oB.trans ow4
 refine xam _ rfl (fun K hK=>?_)
 go_simp
 refine (xcw base v4 _ kn w4 hv4 hkl (by simp [xal];omega)).mono ?_
 rintro en w5 ⟨v5,rfl,hv5,ow5⟩
 refine hK.out _ _ (ow5.keep _ _ _ hX inc_byte) ?_
 clear hK K
 try simp only [qp,qa,qb,qc]
 replace hX:=ow5.keep _ _ _ hX inc_byte
 replace oB:=oB.trans ow5
 iterate 1
  first
   | (refine xad _ rfl (by rfl) ?_)
   | (refine xaa _ _ rfl (.inl ⟨by rfl,fun W hS=>by clear hS;go_simp;try with_reducible rfl⟩) ?_)
  try simp only [qp,qa,qb,qc]
 refine xbf ?_
 rw [List.append_assoc,List.append_assoc,← hB.out] at hv5
 have hfin:Hid (OwnV w5 base v5 (s ++ incB x)):=hv5
 have oF:Hid (OffB base w w5):=oB
 clear hv hv3 hv4 hv5 oB ow3 ow4 ow5
 go_wp2
 go_ret
 exact ⟨_,rfl,hfin.out,oF.out⟩
set_option maxHeartbeats 8000000 in
theorem rdiff_any (base:Nat) (v:Value) (s:List UInt8) (x:DiffV) (a2 a3:Option Addr) (e2 e3:Nat) (w:World) (h:OwnV w base v s) (hs:∀ W,OffB base w W → DiffSl W x a2 e2 a3 e3) (hx:DifG x) (hi:isSt x.whole = true) (hl:s.length ≤ 20000):Calls Tryz.prog 34 #[v,.agg (diffC x a2 e2 a3 e3)] w (Puts base w s (difB x)):=by
 obtain ⟨w1,hw1,hX,hb⟩:=xbr w 46 (diffC x a2 e2 a3 e3)
 have hbase:=h.2.1
 have hv:=h.later hb
 have oB:OffB base w w1:=OffB.of hb hbase
 obtain ⟨kn,hkn,hkl⟩:=hx.kind
 have hcv:=conv_int_u8 kn hkl
 have hlg:=logB_length hx.log hx.len
 have hB:Hid (difB x = putB kn 1 ++ (putB x.fr 4 ++ (logB x.log ++ statB x.whole))):=by
  show _ = _
  unfold difB
  rw [hkn,nat_mod hkl]
 have hw0:w.heap.size < w1.heap.size:=hX.lt
 clear h hb
 go_enter Tryz.func34,Tryz.ntmps34
 go_wp2_with fail
 clear hw1
 refine xas (fun W=>Has W w.heap.size 46 (diffC x a2 e2 a3 e3)) (Plan.of [(0,true),(1,true),(2,true),(3,true),(5,true),(6,true),(4,false),(7,false),(8,true)] .done) (by kernel_rfl) (by kernel_rfl) (by kernel_rfl) (by kernel_rfl) hX.drew ?_
 replace hX:=hX.drew
 replace hv:=hv.drew
 replace oB:OffB base w _:=oB.trans (OffB.of (Below.refl _ _).drew hv.2.1)
 generalize w1.drew = w2 at *
 iterate 2
  first
   | (refine xad _ rfl (by rfl) ?_)
   | (refine xaa _ _ rfl (.inl ⟨by rfl,fun W hS=>by clear hS;go_simp;try with_reducible rfl⟩) ?_)
  try simp only [qp,qa,qb,qc]
 iterate 1
  first
   | (refine xad _ rfl (by rfl) ?_)
   | (refine xaa _ _ rfl (.inl ⟨by rfl,fun W hS=>by have z:W.cell? ⟨w.heap.size,0,none⟩ = some (.int .i64 (kn:Int)):=hS.d_kind.trans (by rw [← hkn]);go_simp;try with_reducible rfl⟩) ?_)
  try simp only [qp,qa,qb,qc]
 refine xaa _ (.int .u8 (kn:Int)) rfl (.inl ⟨by rfl,fun W hS=>by go_simp;try rw [hcv]⟩) ?_
 try simp only [qp,qa,qb,qc]
 iterate 1
  first
   | (refine xad _ rfl (by rfl) ?_)
   | (refine xaa _ _ rfl (.inl ⟨by rfl,fun W hS=>by clear hS;go_simp;try with_reducible rfl⟩) ?_)
  try simp only [qp,qa,qb,qc]
 iterate 1
  first
   | (refine xad _ rfl (by rfl) ?_)
   | (refine xaa _ _ rfl (.inl ⟨by rfl,fun W hS=>by have z:=hS.d_from;go_simp;try with_reducible rfl⟩) ?_)
  try simp only [qp,qa,qb,qc]
 refine xam _ rfl (fun K hK=>?_)
 go_simp
 refine (xcw base v s kn w2 hv hkl (by omega)).mono ?_
 rintro en w3 ⟨v3,rfl,hv3,ow3⟩
 refine hK.out _ _ (ow3.keep _ _ _ hX xfq) ?_
 clear hK K
 try simp only [qp,qa,qb,qc]
 replace hX:=ow3.keep _ _ _ hX xfq
 replace oB:=oB.trans ow3
 refine xam _ rfl (fun K hK=>?_)
 go_simp
 refine (xcs base v3 _ x.fr w3 hv3 hx.fr (by simp [xal];omega)).mono ?_
 rintro en w4 ⟨v4,rfl,hv4,ow4⟩
 refine hK.out _ _ (ow4.keep _ _ _ hX xfq) ?_
 clear hK K
 try simp only [qp,qa,qb,qc]
 replace hX:=ow4.keep _ _ _ hX xfq
 replace oB:=oB.trans ow4
 iterate 1
  first
   | (refine xad _ rfl (by rfl) ?_)
   | (refine xaa _ _ rfl (.inl ⟨by rfl,fun W hS=>by clear hS;go_simp;try with_reducible rfl⟩) ?_)
  try simp only [qp,qa,qb,qc]
 refine xbf ?_
 have sl4:=hs w4 oB
 go_wp2_with fail
 refine xas (fun W=>Has W w.heap.size 46 (diffC x a2 e2 a3 e3)) (Plan.of [(0,true),(1,true),(2,true),(4,true),(5,true),(3,false),(6,false),(7,true)] .done) (by kernel_rfl) (by kernel_rfl) (by kernel_rfl) (by kernel_rfl) hX.drew ?_
 replace hX:=hX.drew
 replace hv4:=hv4.drew
 replace oB:OffB base w _:=oB.trans (OffB.of (Below.refl _ _).drew hv4.2.1)
 generalize w4.drew = w5 at *
 iterate 2
  first
   | (refine xad _ rfl (by rfl) ?_)
   | (refine xaa _ _ rfl (.inl ⟨by rfl,fun W hS=>by clear hS;go_simp;try with_reducible rfl⟩) ?_)
  try simp only [qp,qa,qb,qc]
 iterate 1
  first
   | (refine xad _ rfl (by rfl) ?_)
   | (refine xaa _ _ rfl (.inl ⟨by rfl,fun W hS=>by have z:=hS.d_log;go_simp;try with_reducible rfl⟩) ?_)
  try simp only [qp,qa,qb,qc]
 iterate 1
  first
   | (refine xad _ rfl (by rfl) ?_)
   | (refine xaa _ _ rfl (.inl ⟨by rfl,fun W hS=>by clear hS;go_simp;try with_reducible rfl⟩) ?_)
  try simp only [qp,qa,qb,qc]
 refine xaa _ (.agg (stC x.whole a3 e3)) rfl (xaj (by rfl) 44 _ rfl w.heap.size 3 rfl (stL x.whole a3 e3) _ Tryz.underlying44 rfl (xcg x.whole a3 e3) (fun W hS=>hS.d_whole)) ?_
 try simp only [qp,qa,qb,qc]
 refine xam _ rfl (fun K hK=>?_)
 go_simp
 refine (rlog_any base v4 _ x.log a2 e2 w5 hv4 (fun W hW=>(hs W (oB.trans hW)).log) hx.log hx.len (by simp [xal];omega)).mono ?_
 rintro en w6 ⟨v6,rfl,hv6,ow6⟩
 refine hK.out _ _ (ow6.keep _ _ _ hX xfq) ?_
 clear hK K
 try simp only [qp,qa,qb,qc]
 replace hX:=ow6.keep _ _ _ hX xfq
 replace oB:=oB.trans ow6
 refine xam _ rfl (fun K hK=>?_)
 go_simp
 refine (rputst_any base v6 _ x.whole a3 e3 w6 hv6 (fun W hW=>(hs W (oB.trans hW)).whole) hx.whole.ok (by simp [xal];omega)).mono ?_
 rintro en w7 ⟨v7,rfl,hv7,ow7⟩
 refine hK.out _ _ (ow7.keep _ _ _ hX xfq) ?_
 clear hK K
 try simp only [qp,qa,qb,qc]
 replace hX:=ow7.keep _ _ _ hX xfq
 replace oB:=oB.trans ow7
 iterate 1
  first
   | (refine xad _ rfl (by rfl) ?_)
   | (refine xaa _ _ rfl (.inl ⟨by rfl,fun W hS=>by clear hS;go_simp;try with_reducible rfl⟩) ?_)
  try simp only [qp,qa,qb,qc]
 refine xbf ?_
 rw [if_pos hi,List.append_assoc,List.append_assoc,List.append_assoc,← hB.out] at hv7
 have hfin:Hid (OwnV w7 base v7 (s ++ difB x)):=hv7
 have oF:Hid (OffB base w w7):=oB
 clear hv hv3 hv4 hv6 hv7 oB ow3 ow4 ow6 ow7 sl4
 go_wp2
 go_ret
 exact ⟨_,rfl,hfin.out,oF.out⟩
end Go.Proofs.YtecilienolabfaaGreatDoor
