/- Several texts in one, in build order: WireOpen, WireRead, WireCaught, WireDec. -/
import Derived.Test.YtecilienolabfaaGreatDoorPackCode
import Derived.Test.YtecilienolabfaaGreatDoorMsgFacts
import Derived.Test.YtecilienolabfaaGreatDoorCodeGet
import Derived.Test.YtecilienolabfaaGreatDoorIsAny
import Derived.Test.YtecilienolabfaaGreatDoorAsErr
import Derived.Test.YtecilienolabfaaGreatDoorCoder
import Derived.Recover
/- WireOpen: The contract of wire.opened. -/
namespace Go.Proofs.YtecilienolabfaaGreatDoor
set_option linter.unusedSimpArgs false
set_option linter.unusedVariables false
set_option maxRecDepth 100000
open Go.RowKit
theorem xbi {P:Program} {ops:Array Oper} {rest:List Oper} {o:Oper} {a:Act} {w:World} {Q:Exit → Act → World → Prop} (hw:Region.wanted o (yielded ops a.tmps) = true) (t:TypeId) (ps:List (Nat × Operand)) (ho:o.op = .build t ps.toArray) (vs:List (Nat × Value)) (hp:ps.map (fun p=>(p.1,a.eval p.2)) = vs) (c:Array Value) (hf:P.built t vs = some c)
  (h:wpList P ops Q rest (a.put o.dst (.agg c)) w):wpList P ops Q (o :: rest) a w :=
 xar hw t ps.toArray ho c (by
  rw [List.map_toArray]
  show P.built t (ps.map fun p=>(p.1,a.eval p.2)) = _
  rw [hp]
  exact hf) h
theorem getter_zero:(Tryz.prog.info? 119).map (·.zero) = some (some (.agg #[.slice none 0 0])):=by kernel_rfl
theorem getter_size (v:Value):(Tryz.prog.info? 119).map (·.size) = some (#[v]:Array Value).size:=by show _ = some 1;kernel_rfl
theorem slice_one (ao:Option Addr) (n c:Nat):(#[Value.slice ao n c]:Array Value).all (·.oneCell') = true:=by simp [Value.oneCell']
theorem opened_long (ao:Option Addr) (n c:Nat) (w:World) (hl:2000 < n) (hc:n ≤ c):Calls Tryz.prog 90 #[.slice ao n c] w fun e w'=>e = thrown 13 ∧ w' = w:=by
 have d1:decide ((n:Int) ≤ 2000) = false:=decide_eq_false (by omega)
 go_enter Tryz.func90,Tryz.ntmps90
 go_wp2_with fail
 refine (must_no 13 _).mono ?_
 rintro e w' ⟨rfl,rfl⟩
 go_wp2
 exact ⟨rfl,rfl,rfl⟩
theorem opened_short (ao:Option Addr) (n c:Nat) (w:World) (hl:n < 8) (hc:n ≤ c):Calls Tryz.prog 90 #[.slice ao n c] w fun e w'=>e = thrown 11 ∧ w' = w:=by
 have d1:decide ((n:Int) ≤ 2000) = true:=decide_eq_true (by omega)
 have d2:decide (8 ≤ (n:Int)) = false:=decide_eq_false (by omega)
 go_enter Tryz.func90,Tryz.ntmps90
 go_wp2_with fail
 refine (xhf 13 _).mono ?_
 rintro e w' ⟨rfl,rfl⟩
 go_wp2_with fail
 refine (must_no 11 _).mono ?_
 rintro e w' ⟨rfl,rfl⟩
 go_wp2
 exact ⟨rfl,rfl,rfl⟩
set_option maxHeartbeats 4000000 in
theorem opened_mid (ad:Addr) (n k c:Nat) (xs:List UInt8) (w:World) (h:By w (some ad) c xs) (hn:n = xs.length) (hk:n = k + 8) (hl:n ≤ 2000) (hlt:ad.block < w.heap.size):Calls Tryz.prog 90 #[.slice (some ad) n c] w fun e w'=>Below w.heap.size w w' ∧ ((getN (xs.drop k) = sumN (xs.take k) ∧ e = .returned (.slice (some ad) k c)) ∨ (getN (xs.drop k) ≠ sumN (xs.take k) ∧ e = thrown 12)):=by
 have hle:n ≤ c:=by have:=h.le;omega
 have hcap:=h.cap
 have d1:decide ((n:Int) ≤ 2000) = true:=decide_eq_true (by omega)
 have d2:decide (8 ≤ (n:Int)) = true:=decide_eq_true (by omega)
 have e8:((n:Int) - 8) = (k:Int):=by omega
 have hkc:¬ c = k:=by omega
 have hrl:(xs.drop k).length = n - k:=by rw [List.length_drop];omega
 have hr8:(xs.drop k).length = 8:=by rw [List.length_drop];omega
 have hb1:Below w.heap.size w (w.alloc (.cells #[.slice (some (ad.add k)) (n - k) (c - k)] 119)):=(Below.refl _ _).alloc (Nat.le_refl _) _
 have hblk:(ad.add k).block = ad.block:=by unfold Addr.add;split <;> rfl
 have hI:GetI w.heap.size (fun j=>j = ad.block) (w.alloc (.cells #[.slice (some (ad.add k)) (n - k) (c - k)] 119)) (xs.drop k) (fun j=>j = w.heap.size):=by
  refine ⟨some (ad.add k),c - k,by rw [hrl];exact Has.new _ _ _,?_,fun a' ha=>?_,fun _=>Iff.rfl,fun q=>?_,fun j q=>?_,by omega⟩
  ·have:=(h.later hb1).rest (k:=k) (by omega)
   unfold xay at this
   rw [if_neg hkc] at this
   exact this
  ·obtain rfl:=Option.some.inj ha
   exact hblk
  ·have:w.heap.size = ad.block:=q
   omega
  ·have:j = ad.block:=q
   simp
   omega
 have hnum:Calls Tryz.prog 122 #[.pointer (some ⟨w.heap.size,0,none⟩),.int .u64 0,.int .i64 8] (w.alloc (.cells #[.slice (some (ad.add k)) (n - k) (c - k)] 119)).drew _:=xhj w.heap.size (fun j=>j = ad.block) 0 8 _ (xs.drop k) (fun j=>j = w.heap.size) (get_kept _ _ _ _ _ _ hI (Nat.le_refl _) (fun _ _ _=>rfl)) (by decide) (by decide) Bare.no
 rw [show GetC.num 0 8 (xs.drop k) = .ok (getN (xs.drop k),(xs.drop k).drop 8) from get_num.2 ⟨by omega,by rw [List.take_of_length_le (by omega)],rfl⟩] at hnum
 have hB1:Hid (By (w.alloc (.cells #[.slice (some (ad.add k)) (n - k) (c - k)] 119)).drew (some ad) c (xs.take k)):=((h.later hb1).first k).at (fun _ _ _=>rfl)
 have htl:Hid (k = (xs.take k).length):=by show _ = _;rw [List.length_take];omega
 have hkI:(k:Int) ≤ (c:Int):=by omega
 replace hnum:Hid _:=hnum
 replace hb1:Hid _:=hb1
 clear hI hrl hr8 hblk
 replace hn:Hid _:=hn
 replace hk:Hid _:=hk
 go_enter Tryz.func90,Tryz.ntmps90
 go_wp2_with fail
 refine (xhf 13 _).mono ?_
 rintro e w' ⟨rfl,rfl⟩
 go_wp2_with fail
 refine (xhf 11 _).mono ?_
 rintro e w' ⟨rfl,rfl⟩
 clear d1 d2
 go_wp2_with fail
 refine xcb (fun _=>True) (Plan.of [(1,true),(2,true),(3,true),(0,false),(4,false),(5,true),(6,false)] .done) (fun q w2=>Below w'.heap.size w' w2 ∧ getN (xs.drop k) ≠ sumN (xs.take k) ∧ Ending.panicked q = thrown 12) (by kernel_rfl) (by kernel_rfl) (by kernel_rfl) (by kernel_rfl) trivial (fun q a' w2 hh hd=>⟨hd,hh.1,.inr hh.2⟩) ?_
 have hb2:Hid (Below w'.heap.size w' (w'.alloc (.cells #[.slice (some (ad.add k)) (n - k) (c - k)] 119)).drew):=hb1.out.drew
 generalize (w'.alloc (.cells #[.slice (some (ad.add k)) (n - k) (c - k)] 119)).drew = W at *
 iterate 3
  first
   | (refine xad _ rfl (by rfl) ?_)
   | (refine xaa _ _ rfl (.inl ⟨by rfl,fun W hS=>by clear hS;go_simp;try with_reducible rfl⟩) ?_)
  try simp only [qp,qa,qb,qc]
 refine xam _ rfl (fun K hK=>?_)
 go_simp
 refine Calls.mono hnum.out ?_
 rintro en w2 ⟨F',rfl,hI2,hs2⟩
 refine hK.out _ _ trivial ?_
 clear hK K hnum hI2
 have hb3:Below w'.heap.size w' w2:=hb2.out.trans (hs2.off.below (fun b q=>Nat.le_of_eq (show b = w'.heap.size from q).symm) hb2.out.size)
 have hB2:By w2 (some ad) c (xs.take k):=hB1.out.at (fun a' ha _=>hs2.off.block _ (by obtain rfl:=Option.some.inj ha;exact Nat.lt_of_lt_of_le hlt hb2.out.size) (fun q=>by obtain rfl:=Option.some.inj ha;have:ad.block = w'.heap.size:=q;omega))
 clear hb2 hs2 hB1
 try simp only [qp,qa,qb,qc]
 refine xam _ rfl (fun K hK=>?_)
 go_simp
 refine (sum_any (some ad) k c (xs.take k) w2 hB2 htl.out).mono ?_
 rintro en w3 ⟨rfl,rfl⟩
 refine hK.out _ _ trivial ?_
 clear hK K
 try simp only [qp,qa,qb,qc]
 by_cases hg:getN (xs.drop k) = sumN (xs.take k)
 ·refine xaa _ (.bool true) rfl (.inl ⟨by rfl,fun W hS=>by have hg':=hg;go_simp;try omega⟩) ?_
  try simp only [qp,qa,qb,qc]
  refine xam _ rfl (fun K hK=>?_)
  go_simp
  refine (xhf 12 _).mono ?_
  rintro e w4 ⟨rfl,rfl⟩
  refine hK.out _ _ trivial ?_
  clear hK K
  try simp only [qp,qa,qb,qc]
  refine xcd ?_
  replace hg:Hid _:=hg
  go_wp2
  go_ret
  exact ⟨hb3,.inl ⟨hg.out,rfl⟩⟩
 ·refine xaa _ (.bool false) rfl (.inl ⟨by rfl,fun W hS=>by have hg':=hg;go_simp;try omega⟩) ?_
  try simp only [qp,qa,qb,qc]
  refine xam _ rfl (fun K hK=>?_)
  go_simp
  refine (must_no 12 _).mono ?_
  rintro e w4 ⟨rfl,rfl⟩
  refine xbo ?_ rfl
  first | exact ⟨hb3,hg,rfl⟩ | exact ⟨hb3,rfl⟩
theorem opened_any (ao:Option Addr) (n c:Nat) (xs:List UInt8) (w:World) (h:By w ao c xs) (hn:n = xs.length) (hlt:∀ ad,ao = some ad → ad.block < w.heap.size):Calls Tryz.prog 90 #[.slice ao n c] w fun e w'=>Below w.heap.size w w' ∧ ((∃ d,openM xs = .ok d ∧ d = xs.take (xs.length - 8) ∧ e = .returned (.slice ao d.length c)) ∨ ∃ k,openM xs = .error k ∧ e = thrown k):=by
 have hle:=h.le
 by_cases h1:2000 < n
 ·refine (opened_long ao n c w h1 (by omega)).mono ?_
  rintro e w' ⟨rfl,rfl⟩
  exact ⟨Below.refl _ _,.inr ⟨13,by unfold openM;rw [if_pos (by omega)],rfl⟩⟩
 by_cases h2:n < 8
 ·refine (opened_short ao n c w h2 (by omega)).mono ?_
  rintro e w' ⟨rfl,rfl⟩
  exact ⟨Below.refl _ _,.inr ⟨11,by unfold openM;rw [if_neg (by omega),if_pos (by omega)],rfl⟩⟩
 cases ao with
 | none=>have:=h.nil rfl;omega
 | some ad =>
  refine (opened_mid ad n (n - 8) c xs w h hn (by omega) (by omega) (hlt ad rfl)).mono ?_
  rintro e w' ⟨hb,hh⟩
  rw [hn] at hh
  refine ⟨hb,?_⟩
  rcases hh with ⟨hg,rfl⟩ | ⟨hg,rfl⟩
  ·refine .inl ⟨xs.take (xs.length - 8),?_,rfl,?_⟩
   ·unfold openM
    rw [if_neg (by omega),if_neg (by omega),if_pos hg]
   ·rw [List.length_take,Nat.min_eq_left (by omega)]
  ·refine .inr ⟨12,?_,rfl⟩
   unfold openM
   rw [if_neg (by omega),if_neg (by omega),if_neg hg]
end Go.Proofs.YtecilienolabfaaGreatDoor
/- WireRead: The contract of wire.readMessage. -/
namespace Go.Proofs.YtecilienolabfaaGreatDoor
set_option linter.unusedSimpArgs false
set_option linter.unusedVariables false
set_option maxRecDepth 100000
open Go.RowKit
theorem fits_get:Fits GetC []:=fun s n t h=>by
 obtain ⟨k,rfl,_,_⟩:=small_was h
 exact Int.natCast_nonneg _
theorem lgW0:LgW GetC []:=⟨(fun _ h=>by cases h),by decide,fits_get⟩
theorem stW0:StW GetC st0:=⟨by show 0 < _;decide,ent0_G.ok,⟨fun i=>⟨by show 0 ≤ _;decide,by show 0 ≤ _;decide,by show 0 ≤ _;decide,by show 0 ≤ _;decide⟩,fun i=>by show 0 < _;decide,fun i=>by show 0 < _;decide⟩,lgW0⟩
theorem partsW0 (sh:ShV):PartsW GetC sh msg0:=⟨fun _=>stW0,fun _=>⟨by show (_:Int) ≤ 0;decide,by show (0:Int) ≤ _;decide,by show 0 < _;decide,lgW0,stW0⟩,fun _=>ent0_G,fun _=>⟨op0_ok,by show 0 ≤ _;decide⟩,fun _=>⟨by show 0 < _;decide,by show 0 ≤ _;decide⟩⟩
theorem msg0_ok:MsgOk msg0:=⟨by show 0 < _;decide,by show 0 < _;decide,by show 0 < _;decide,by show 0 < _;decide,xhn,xhn,inc0_ok,by show 0 < _;decide,st0_fit,diff0_fit,ent0_G.ok,by show 0 < _;decide,op0_ok,⟨by show 0 < _;decide,by show 0 ≤ _;decide⟩⟩
theorem get_start {w:World} {p c:Nat} {ao:Option Addr} {xs:List UInt8} (h:Has w p 119 #[.slice ao xs.length c]) (hB:By w ao c xs) (hlt:∀ ad,ao = some ad → ad.block < p) (hl:xs.length ≤ 1000000000):GetI p (fun j=>∃ ad,ao = some ad ∧ j = ad.block) w xs (fun j=>j = p):=by
 have hp:=h.lt
 refine ⟨ao,c,h,hB,fun ad had=>⟨ad,had,rfl⟩,fun _=>Iff.rfl,?_,?_,hl⟩
 ·rintro ⟨ad,had,q⟩
  have:=hlt ad had
  omega
 ·rintro j ⟨ad,had,rfl⟩
  have:=hlt ad had
  omega
theorem GetI.cell {p:Nat} {X:Nat → Prop} {w:World} {s:List UInt8} {F:Nat → Prop} (h:GetI p X w s F):∃ ao c,Has w p 119 #[.slice ao s.length c] ∧ By w ao c s ∧ ∀ ad,ao = some ad → X ad.block:=by
 obtain ⟨ao,c,h1,h2,h3,_⟩:=h
 exact ⟨ao,c,h1,h2,h3⟩
theorem Sl.offs {w w':World} {F:Nat → Prop} {ao:Option Addr} {c:Nat} {l:List EntV} (h:Sl w ao c 8 (entR l)) (hs:OffF F w w') (hF:∀ ad,ao = some ad → ad.block < w.heap.size → ¬ F ad.block):Sl w' ao c 8 (entR l):=by
 have hf:=SlF.of h hF
 refine ⟨h.le,h.cap,h.nil,h.each,fun ad had i hi j hj=>?_⟩
 have hc:=h.at' ad had i hi j hj
 have hbl:(ad.add (i * 8 + j)).block = ad.block:=by unfold Addr.add;split <;> rfl
 have hf:=hf.far ad had (by rw [entR,List.length_map] at hi;omega)
 rw [World.cell?_of_block (w:=w) (hs.block _ (by rw [hbl];exact hf.1) (by rw [hbl];exact hf.2))]
 exact hc
theorem Sl.off {w w':World} {F:Nat → Prop} {ao:Option Addr} {c:Nat} {l:List EntV} (h:Sl w ao c 8 (entR l)) (hs:OffF F w w') (hF:∀ ad,ao = some ad → ad.block < w.heap.size → ¬ F ad.block):Sl w' ao c 8 (entR l):=Sl.offs h hs hF
structure NewSl (B:Nat) (b1 b2 b3:Option Addr):Prop where
 h1:∀ ad,b1 = some ad → B ≤ ad.block
 h2:∀ ad,b2 = some ad → B ≤ ad.block
 h3:∀ ad,b3 = some ad → B ≤ ad.block
theorem LogIn.far {R F':Nat → Prop} {w w':World} {ao:Option Addr} {c:Nat} {l:List EntV} (h:LogIn R F' w w' ao c l):∀ ad,ao = some ad → w.heap.size ≤ ad.block:=by
 rcases h with ⟨rfl,_,_⟩ | ⟨g,rfl,_,hg⟩
 ·intro ad had;cases had
 ·intro ad had
  obtain rfl:=Option.some.inj had
  exact hg.new
theorem MsgSl.off {w w':World} {F:Nat → Prop} {m:MsgV} {a1 a2 a3:Option Addr} {c1 c2 c3:Nat} (h:MsgSl w m a1 c1 a2 c2 a3 c3) (hs:OffF F w w') (h1:∀ ad,a1 = some ad → ¬ F ad.block) (h2:∀ ad,a2 = some ad → ¬ F ad.block) (h3:∀ ad,a3 = some ad → ¬ F ad.block):MsgSl w' m a1 c1 a2 c2 a3 c3 :=
 ⟨Sl.off h.st hs (fun ad had _=>h1 ad had),Sl.off h.log hs (fun ad had _=>h2 ad had),Sl.off h.whole hs (fun ad had _=>h3 ad had)⟩
set_option maxHeartbeats 8000000 in
theorem rdmsg_any (ao:Option Addr) (n c:Nat) (xs:List UInt8) (w:World) (h:By w ao c xs) (hn:n = xs.length) (hlt:∀ ad,ao = some ad → ad.block < w.heap.size) :
  Calls Tryz.prog 55 #[.slice ao n c] w fun e w'=>Below w.heap.size w w' ∧ ((∃ m b1 d1 b2 d2 b3 d3,rdMsgM xs = .ok m ∧ e = .returned (.agg (msgC m b1 d1 b2 d2 b3 d3)) ∧ MsgSl w' m b1 d1 b2 d2 b3 d3 ∧ NewSl w.heap.size b1 b2 b3) ∨ ∃ k,rdMsgM xs = .error k ∧ e = thrown k):=by
 obtain ⟨w1,hw1,hR,hb⟩:=xbr w 48 (msgC msg0 none 0 none 0 none 0)
 have hlt1:Hid (∀ ad,ao = some ad → ad.block < w1.heap.size):=fun ad had=>Nat.lt_of_lt_of_le (hlt ad had) hb.size
 have hop:=opened_any ao n c xs w1 (h.later hb) hn hlt1.out
 replace hop:Hid _:=hop
 have hB1:Hid (By w1 ao c xs):=h.later hb
 have hM:Hid (rdMsgM xs = match openM xs with
  | .error n=>.error n
  | .ok c=>match msgM GetC msg0 c with
   | .error n=>.error n
   | .ok (m,r)=>if r.length = 0 ∧ isMsg m = true then .ok m else .error 10):=rfl
 clear h hn hlt
 go_enter Tryz.func55,Tryz.ntmps55
 go_wp2_with (first
  | (refine xac (by rfl) 48 rfl (msgC msg0 none 0 none 0 none 0) xbg ?_;rw [hw1];clear hw1)
  | fail)
 refine Calls.mono hop.out ?_
 rintro e w2 ⟨hq,hh⟩
 clear hop
 have hb2:=hb.trans (hq.mono hb.size)
 replace hR:=hR.later hq
 have hlt2:w.heap.size < w2.heap.size:=hR.lt
 rcases hh with ⟨d,ho,hd,rfl⟩ | ⟨k,ho,rfl⟩
 ·rw [ho] at hM
  have hl2:d.length ≤ 1992:=(open_was ho).2
  have hBd:By w2 ao c d:=by rw [hd];exact (hB1.out.later hq).first _
  have hltA:∀ ad,ao = some ad → ad.block < w2.heap.size:=fun ad had=>Nat.lt_of_lt_of_le (hlt1.out ad had) hq.size
  clear hd ho hB1 hlt1 hq hb
  obtain ⟨w3,hw3,hG,hq⟩:=xcm w2 119 #[.slice none 0 0] #[.slice ao d.length c]
  have hI:=get_start hG (hBd.later hq) hltA (by omega)
  have hb3:=hb2.trans (hq.mono hb2.size)
  replace hR:=hR.later hq
  have hcall:=wmsg_any (get_coder w2.heap.size (fun j=>∃ ad,ao = some ad ∧ j = ad.block)) w3 d (fun j=>j = w2.heap.size) msg0 none none none 0 0 0 hI msg0_ok (fun _ _ _=>partsW0 _) (SlF.nothing _ _) (SlF.nothing _ _) (SlF.nothing _ _) Bare.no
  replace hcall:Hid _:=hcall
  unfold getV at hcall
  have hsz:=hb2.size
  have hR3:=hR.lt
  clear hltA hBd hG hq hI
  go_wp2_with (first
   | (refine xac (by rfl) 119 rfl #[.slice none 0 0] getter_zero ?_)
   | (refine xai (by rfl) 119 _ _ rfl w2.heap.size rfl #[.slice ao d.length c] rfl 119 #[.slice none 0 0] (getter_size _) rfl (slice_one _ _ _) ?hg w3 ?hW ?_;(case hg=>exact Has.new _ _ _);(case hW=>exact hw3);clear hw3)
   | (refine xbi (by rfl) 48 [] rfl [] rfl (msgC msg0 none 0 none 0 none 0) xfi ?_)
   | fail)
  refine Calls.mono hcall.out ?_
  intro e w4 h4
  clear hcall
  cases hr:msgM GetC msg0 d with
  | error k =>
   rw [hr] at h4 hM
   obtain ⟨rfl,F4,hs4⟩:=h4
   have hb4:Below w.heap.size w w4:=hb3.trans (hs4.off.below (fun b q=>by have:b = w2.heap.size:=q;omega) hb3.size)
   clear hs4 hr
   unfold thrown
   go_wp2
   exact ⟨rfl,hb4,.inr ⟨k,hM.out,rfl⟩⟩
  | ok p =>
   obtain ⟨m,r⟩:=p
   rw [hr] at h4 hM
   obtain ⟨F4,b1,e1,b2,e2,b3,e3,rfl,l1,l2,l3,hI4,hs4⟩:=h4
   have hb4:Below w.heap.size w w4:=hb3.trans (hs4.off.below (fun b q=>by have:b = w2.heap.size:=q;omega) hb3.size)
   have hG:=(msg_was hr).1
   have hm:=hG.ok
   have sm:MsgSl w4 m b1 e1 b2 e2 b3 e3:=⟨l1.sl (by have:=hm.st.len;omega),l2.sl (by have:=hm.diff.len;omega),l3.sl (by have:=hm.diff.whole.len;omega)⟩
   obtain ⟨ao4,cc4,hp4,hB4,hX4⟩:=hI4.cell
   replace hR:=hs4.off.has hR (by intro q;have:w.heap.size = w2.heap.size:=q;omega)
   have hsz3:w.heap.size < w3.heap.size:=hR3
   have far1:Hid (∀ ad,b1 = some ad → ¬ (fun k=>k = w.heap.size) ad.block):=fun ad had q=>by have:=l1.far ad had;have:ad.block = w.heap.size:=q;omega
   have far2:Hid (∀ ad,b2 = some ad → ¬ (fun k=>k = w.heap.size) ad.block):=fun ad had q=>by have:=l2.far ad had;have:ad.block = w.heap.size:=q;omega
   have far3:Hid (∀ ad,b3 = some ad → ¬ (fun k=>k = w.heap.size) ad.block):=fun ad had q=>by have:=l3.far ad had;have:ad.block = w.heap.size:=q;omega
   have far:Hid (NewSl w.heap.size b1 b2 b3):=⟨fun ad had=>by have:=l1.far ad had;omega,fun ad had=>by have:=l2.far ad had;omega,fun ad had=>by have:=l3.far ad had;omega⟩
   clear hs4 hr hG l1 l2 l3 hI4
   obtain ⟨w5,hw5,hV,hq5⟩:=xcm w4 48 (msgC msg0 none 0 none 0 none 0) (msgC m b1 e1 b2 e2 b3 e3)
   have hb5:=hb4.trans (hq5.mono hb4.size)
   have sm5:=sm.later hq5
   replace hR:=hR.later hq5
   have hp5:=hp4.later hq5
   have hcell:=hp5.cell 0
   replace hM:Hid _:=hM
   have hlen4:=hB4.le
   have hcap4:=hB4.cap
   clear hB4 hX4 hp4 sm
   by_cases hr0:r.length = 0
   ·rw [hr0] at hcell
    have hcell:w5.cell? ⟨w2.heap.size,0,none⟩ = some (.slice ao4 0 cc4):=hcell
    have hM0:Hid (rdMsgM xs = if isMsg m = true then .ok m else .error 10):=by
     have:=hM.out
     simp only [hr0,true_and] at this
     exact this
    clear hM hr0 hlen4 hp5
    go_wp2_with (first
     | (refine xac (by rfl) 48 rfl (msgC msg0 none 0 none 0 none 0) xbg ?_)
     | (refine xai (by rfl) 48 _ _ rfl w4.heap.size rfl (msgC m b1 e1 b2 e2 b3 e3) rfl 48 (msgC msg0 none 0 none 0 none 0) (xah m b1 b2 b3 e1 e2 e3) (xbe _ _ _ _ _ _ _ _ _ _ _ _ _ _) (xbn m b1 b2 b3 e1 e2 e3) ?hg w5 ?hW ?_;(case hg=>exact Has.new _ _ _);(case hW=>exact hw5);clear hw5)
     | (refine xab (by first | rfl | simp [Region.wanted,yielded]) 48 _ rfl w4.heap.size rfl 48 (msgC m b1 e1 b2 e2 b3 e3) _ Tryz.underlying48 rfl (xah m b1 b2 b3 e1 e2 e3) ?hg ?_;(case hg=>exact hV))
     | fail)
    refine (wis_any m b1 b2 b3 e1 e2 e3 _ hm sm5).mono ?_
    rintro en w6 ⟨rfl,hq6⟩
    replace hV:=hV.later hq6
    replace hR:=hR.later hq6
    have sm6:=sm5.later hq6
    have hb6:=hb5.trans (hq6.mono hb5.size)
    clear hq6 sm5 hq5 hb5 hb4 hb3 hb2 hcell
    cases hi:isMsg m with
    | true =>
     rw [hi,if_pos rfl] at hM0
     replace hi:Hid _:=hi
     go_wp2_with fail
     refine (xhf 10 _).mono ?_
     rintro en w7 ⟨rfl,rfl⟩
     have hRr:=hR.row (msgC m b1 e1 b2 e2 b3 e3)
     have hb7:=below_setRow hb6 (Nat.le_refl _) (msgC m b1 e1 b2 e2 b3 e3)
     have sm7:=MsgSl.off sm6 (OffF.but (xbb w7 (g:=w.heap.size) (msgC m b1 e1 b2 e2 b3 e3))) far1.out far2.out far3.out
     go_wp2_with (first
      | (refine xab (by rfl) 48 _ rfl w4.heap.size rfl 48 (msgC m b1 e1 b2 e2 b3 e3) _ Tryz.underlying48 rfl (xah m b1 b2 b3 e1 e2 e3) ?hg ?_;(case hg=>exact hV))
      | (refine xao (by rfl) 48 _ _ rfl w.heap.size rfl (msgC m b1 e1 b2 e2 b3 e3) rfl 48 (msgC msg0 none 0 none 0 none 0) (xah m b1 b2 b3 e1 e2 e3) (xbe _ _ _ _ _ _ _ _ _ _ _ _ _ _) (xbn m b1 b2 b3 e1 e2 e3) ?hg ?_;(case hg=>exact hR))
      | fail)
     exact xba rfl w.heap.size rfl 48 (msgC m b1 e1 b2 e2 b3 e3) _ Tryz.underlying48 rfl (xah m b1 b2 b3 e1 e2 e3) hRr rfl ⟨hb7,.inl ⟨m,b1,e1,b2,e2,b3,e3,hM0.out,rfl,sm7,far.out⟩⟩
    | false =>
     rw [hi] at hM0
     replace hi:Hid _:=hi
     go_wp2_with fail
     refine (must_no 10 _).mono ?_
     rintro en w7 ⟨rfl,rfl⟩
     go_wp2
     exact ⟨rfl,hb6,.inr ⟨10,hM0.out,rfl⟩⟩
   ·have hcell:w5.cell? ⟨w2.heap.size,0,none⟩ = some (.slice ao4 r.length cc4):=hcell
    have hM0:Hid (rdMsgM xs = .error 10):=by
     have:=hM.out
     simp only [hr0,false_and,if_false] at this
     exact this
    have hrB:(((r.length:Nat):Int) == 0) = false:=by simpa using hr0
    have hrD:decide (((r.length:Nat):Int) = 0) = false:=decide_eq_false (by omega)
    clear hM hr0 hp5
    go_wp2_with (first
     | (refine xac (by rfl) 48 rfl (msgC msg0 none 0 none 0 none 0) xbg ?_)
     | (refine xai (by rfl) 48 _ _ rfl w4.heap.size rfl (msgC m b1 e1 b2 e2 b3 e3) rfl 48 (msgC msg0 none 0 none 0 none 0) (xah m b1 b2 b3 e1 e2 e3) (xbe _ _ _ _ _ _ _ _ _ _ _ _ _ _) (xbn m b1 b2 b3 e1 e2 e3) ?hg w5 ?hW ?_;(case hg=>exact Has.new _ _ _);(case hW=>exact hw5);clear hw5)
     | fail)
    refine (must_no 10 _).mono ?_
    rintro en w7 ⟨rfl,rfl⟩
    go_wp2
    exact ⟨rfl,hb5,.inr ⟨10,hM0.out,rfl⟩⟩
 ·have hE:Hid (rdMsgM xs = .error k):=by have:=hM.out;rw [ho] at this;exact this
  clear hM ho
  unfold thrown
  go_wp2
  exact ⟨rfl,hb2,.inr ⟨k,hE.out,rfl⟩⟩
end Go.Proofs.YtecilienolabfaaGreatDoor
/- WireCaught: What is thrown within is an error without: the contracts of wire.caught over the closures of Decode and GetState. -/
namespace Go.Proofs.YtecilienolabfaaGreatDoor
set_option linter.unusedSimpArgs false
set_option linter.unusedVariables false
set_option maxRecDepth 100000
open Go.RowKit
def Laid (w:World):Prop:=w.cell? ⟨0,0,none⟩ = some (.iface 183 (.agg #[.pointer (some ⟨1,140,none⟩)]))
theorem Laid.later {w w':World} {B:Nat} (h:Laid w) (hb:Below B w w') (hB:0 < B):Laid w':=(hb.cell (p:=⟨0,0,none⟩) hB).trans h
theorem Laid.pos {w:World} (h:Laid w):0 < w.heap.size:=World.block_lt_of_cell? w _ h
theorem Laid.next {w w':World} (h:Laid w) (hb:Below w.heap.size w w'):Laid w':=h.later hb h.pos
theorem wcatch_idle (p:Addr) (w:World) :
  CallsD Tryz.prog 88 #[.pointer (some p)] .returning w fun e u' w'=>e = .returned (.tuple #[]) ∧ u' = .returning ∧ w' = w:=by
 have hta:∀ (w:World),(Instr.typeAssert .nilIface 20 140 true).run Tryz.prog w = .ok (.tuple #[.nilIface,.bool false]) w:=fun _=>by kernel_rfl
 refine callsD_of_wpS Tryz.func88 rfl fun c₀ cs hu=>?_
 apply wpS_seq
 apply wpS_region
 simp [wpOpsS,go_sem,recoverD,hu,Tryz.ntmps88,Exit.thenS,hta,Array.replicate]
 apply wpS_seq
 apply wpS_region
 simp [wpOpsS,go_sem,Exit.thenS,Array.replicate]
 refine wpS_cond (t:=false) (by simp [Act.eval]) ?_
 simp only [Bool.false_eq_true,if_false]
 refine wpS_of_wp (wp_skip ?_)
 cases c₀
 simp_all [bodyPostS,results,Tryz.results88]
theorem wcatch_panicking (p:Addr) (x y:Int) (older:List PanicEntry) (w:World) (hL:Laid w) (hc:w.cell? p = some (.int .i64 y)) (hz:w.frozen? p = false) :
  CallsD Tryz.prog 88 #[.pointer (some p)] (.panicking ({ v:=.iface 52 (.int .i64 x),recovered:=false } :: older)) w fun e u' w' =>
   e = .returned (.tuple #[]) ∧ u' = .panicking ({ v:=.iface 52 (.int .i64 x),recovered:=true } :: older) ∧ ∃ W:World,Below w.heap.size w W ∧ w' = W.setCell p (.int .i64 x):=by
 have hta:∀ (x:Int) (w:World),(Instr.typeAssert (.iface 52 (.int .i64 x)) 20 140 true).run Tryz.prog w = .ok (.tuple #[.iface 52 (.int .i64 x),.bool true]) w:=fun _ _=>by kernel_rfl
 refine callsD_of_wpS Tryz.func88 rfl fun c₀ cs hu=>?_
 apply wpS_seq
 apply wpS_region
 simp [wpOpsS,go_sem,recoverD,hu,Tryz.ntmps88,Exit.thenS,hta,Array.replicate]
 apply wpS_seq
 apply wpS_region
 simp [wpOpsS,go_sem,Exit.thenS,Array.replicate]
 refine wpS_cond (t:=true) (by simp [Act.eval]) ?_
 simp only [if_true]
 refine wpS_of_wp ?_
 go_wp2_with fail
 refine (as_no x p (.int .i64 y) w hL hc hz).mono ?_
 rintro e w' ⟨rfl,W,hb,rfl⟩
 replace hb:Hid _:=hb
 go_wp2
 cases c₀
 simp_all [bodyPostS,results,Tryz.results88]
 exact ⟨W,hb.out,rfl⟩
theorem wcaught_dec_ok (a b:Value) (w:World) (R:World → Prop)
  (hF:Calls Tryz.prog 54 #[a,b] (w.alloc (.cells #[.int .i64 10] 52)) fun e w'=>e = .returned (.tuple #[]) ∧ R w')
  (hR:∀ w1,R w1 → w1.cell? ⟨w.heap.size,0,none⟩ = some (.int .i64 10) ∧ w1.frozen? ⟨w.heap.size,0,none⟩ = false) :
  Calls Tryz.prog 53 #[.func (.func 54) #[] #[a,b]] w fun e w'=>e = .returned (.int .i64 0) ∧ ∃ w1,R w1 ∧ w' = w1.setCell ⟨w.heap.size,0,none⟩ (.int .i64 0):=by
 have hmf:∀ (fn:Fn) (first cap:Array Value) (w:World),(Instr.makeFunc fn first cap).run Tryz.prog w = .ok (.func fn first cap) w:=fun _ _ _ _=>rfl
 replace hF:Hid _:=hF
 replace hR:Hid _:=hR
 go_enter_defers Tryz.func53,Tryz.ntmps53
 go_wp2_with fail
 refine Calls.mono hF.out ?_
 rintro e w' ⟨rfl,hw⟩
 obtain ⟨hc,hz⟩:=hR.out w' hw
 have HW:Hid (R w'):=hw
 clear hw
 go_wp2
 refine leaves_cons (f:=88) (args:=#[.pointer (some ⟨w.heap.size,0,none⟩)]) (by simp) (by simp [go_sem]) ?_
 refine (wcatch_idle ⟨w.heap.size,0,none⟩ _).mono ?_
 rintro e u' w'' ⟨rfl,rfl,rfl⟩
 have hc2:(w'.setCell ⟨w.heap.size,0,none⟩ (.int .i64 0)).cell? ⟨w.heap.size,0,none⟩ = some (.int .i64 0):=by
  rw [World.cell?_setCell_same _ _ _ hc]
 simp [Leaves,settle,results,Tryz.results53,go_sem,hc2]
 exact ⟨w',HW.out,rfl⟩
theorem wcaught_dec_err (a b:Value) (n:Nat) (w:World) (R:World → Prop)
  (hF:Calls Tryz.prog 54 #[a,b] (w.alloc (.cells #[.int .i64 10] 52)) fun e w'=>e = thrown n ∧ R w')
  (hR:∀ w1,R w1 → Laid w1 ∧ w1.cell? ⟨w.heap.size,0,none⟩ = some (.int .i64 10) ∧ w1.frozen? ⟨w.heap.size,0,none⟩ = false) :
  Calls Tryz.prog 53 #[.func (.func 54) #[] #[a,b]] w fun e w'=>e = .returned (.int .i64 (n:Nat)) ∧ ∃ w1 W,R w1 ∧ Below w1.heap.size w1 W ∧ w' = W.setCell ⟨w.heap.size,0,none⟩ (.int .i64 (n:Nat)):=by
 have hmf:∀ (fn:Fn) (first cap:Array Value) (w:World),(Instr.makeFunc fn first cap).run Tryz.prog w = .ok (.func fn first cap) w:=fun _ _ _ _=>rfl
 replace hF:Hid _:=hF
 replace hR:Hid _:=hR
 go_enter_defers Tryz.func53,Tryz.ntmps53
 go_wp2_with fail
 refine Calls.mono hF.out ?_
 rintro e w' ⟨rfl,hw⟩
 obtain ⟨hL,hc,hz⟩:=hR.out w' hw
 have HW:Hid (R w'):=hw
 clear hw
 unfold thrown
 go_wp2
 refine leaves_cons (f:=88) (args:=#[.pointer (some ⟨w.heap.size,0,none⟩)]) (by simp) (by simp [go_sem]) ?_
 refine (wcatch_panicking ⟨w.heap.size,0,none⟩ n 10 [] _ hL hc hz).mono ?_
 rintro e u' w'' ⟨rfl,rfl,W,hb,rfl⟩
 have hc2:(W.setCell ⟨w.heap.size,0,none⟩ (.int .i64 n)).cell? ⟨w.heap.size,0,none⟩ = some (.int .i64 n):=by
  rw [World.cell?_setCell_same _ _ _ ((hb.cell (World.block_lt_of_cell? w' _ hc)).trans hc)]
 simp [Leaves,settle,results,Tryz.results53,go_sem,hc2]
 exact ⟨w',HW.out,W,hb,rfl⟩
end Go.Proofs.YtecilienolabfaaGreatDoor
/- WireDec: The contract of wire.Decode. -/
namespace Go.Proofs.YtecilienolabfaaGreatDoor
set_option linter.unusedSimpArgs false
set_option linter.unusedVariables false
set_option maxRecDepth 100000
open Go.RowKit
theorem decode1_any (p q:Nat) (ao:Option Addr) (n c:Nat) (xs:List UInt8) (w:World) (h:By w ao c xs) (hn:n = xs.length) (hlt:∀ ad,ao = some ad → ad.block < w.heap.size) (hp:Has w p 51 #[.slice ao n c]) (hq:Has w q 48 (msgC msg0 none 0 none 0 none 0)) :
  Calls Tryz.prog 54 #[.pointer (some ⟨p,0,none⟩),.pointer (some ⟨q,0,none⟩)] w fun e w'=>((∃ m,rdMsgM xs = .ok m ∧ e = .returned (.tuple #[]) ∧ ∃ b1 d1 b2 d2 b3 d3,Has w' q 48 (msgC m b1 d1 b2 d2 b3 d3) ∧ MsgSl w' m b1 d1 b2 d2 b3 d3 ∧ NewSl w.heap.size b1 b2 b3 ∧ OffF (fun k=>k = q) w w') ∨ ∃ k,rdMsgM xs = .error k ∧ e = thrown k ∧ Below w.heap.size w w'):=by
 have hcell:w.cell? ⟨p,0,none⟩ = some (.slice ao n c):=hp.cell 0
 have hrd:=rdmsg_any ao n c xs w h hn hlt
 replace hrd:Hid _:=hrd
 clear h hn hlt
 go_enter Tryz.func54,Tryz.ntmps54
 go_wp2_with fail
 refine Calls.mono hrd.out ?_
 rintro e w1 ⟨hb,hh⟩
 clear hrd
 have hq1:=hq.later hb
 rcases hh with ⟨m,b1,d1,b2,d2,b3,d3,hM,rfl,sm,nw⟩ | ⟨k,hM,rfl⟩
 ·have hqr:=hq1.row (msgC m b1 d1 b2 d2 b3 d3)
  have hlq:=hq.lt
  have hof:=(OffF.of (F:=fun k=>k = q) hb).trans (OffF.but (xbb w1 (g:=q) (msgC m b1 d1 b2 d2 b3 d3)))
  have sm7:=MsgSl.off sm (OffF.but (xbb w1 (g:=q) (msgC m b1 d1 b2 d2 b3 d3))) (fun ad had z=>by have:=nw.h1 ad had;have:ad.block = q:=z;omega) (fun ad had z=>by have:=nw.h2 ad had;have:ad.block = q:=z;omega) (fun ad had z=>by have:=nw.h3 ad had;have:ad.block = q:=z;omega)
  replace hM:Hid _:=hM
  go_wp2_with (first
   | (refine xao (by rfl) 48 _ _ rfl q rfl (msgC m b1 d1 b2 d2 b3 d3) rfl 48 (msgC msg0 none 0 none 0 none 0) (xah m b1 b2 b3 d1 d2 d3) (xbe _ _ _ _ _ _ _ _ _ _ _ _ _ _) (xbn m b1 b2 b3 d1 d2 d3) ?hg ?_;(case hg=>exact hq1))
   | fail)
  go_end0
  exact .inl ⟨m,hM.out,rfl,b1,d1,b2,d2,b3,d3,hqr,sm7,nw,hof⟩
 ·replace hM:Hid _:=hM
  unfold thrown
  go_wp2
  exact ⟨rfl,.inr ⟨k,hM.out,rfl,hb⟩⟩
set_option maxHeartbeats 4000000 in
theorem caught_dec (p q:Nat) (ao:Option Addr) (n c:Nat) (xs:List UInt8) (w:World) (h:By w ao c xs) (hn:n = xs.length) (hlt:∀ ad,ao = some ad → ad.block < w.heap.size) (hp:Has w p 51 #[.slice ao n c]) (hq:Has w q 48 (msgC msg0 none 0 none 0 none 0)) (hL:Laid w) :
  Calls Tryz.prog 53 #[.func (.func 54) #[] #[.pointer (some ⟨p,0,none⟩),.pointer (some ⟨q,0,none⟩)]] w fun e w'=>e = .returned (.int .i64 ((decM xs).2:Nat)) ∧ ∃ b1 d1 b2 d2 b3 d3,Has w' q 48 (msgC (decM xs).1 b1 d1 b2 d2 b3 d3) ∧ MsgSl w' (decM xs).1 b1 d1 b2 d2 b3 d3 ∧ NewSl w.heap.size b1 b2 b3 ∧ OffF (fun k=>k = q) w w':=by
 have hb:Below w.heap.size w (w.alloc (.cells #[.int .i64 10] 52)):=(Below.refl _ _).alloc (Nat.le_refl _) _
 have hsz:(w.alloc (.cells #[.int .i64 10] 52)).heap.size = w.heap.size + 1:=by simp
 have hE:Has (w.alloc (.cells #[.int .i64 10] 52)) w.heap.size 52 #[.int .i64 10]:=Has.new _ _ _
 have hd:=decode1_any p q ao n c xs _ (h.later hb) hn (fun ad had=>Nat.lt_of_lt_of_le (hlt ad had) hb.size) (hp.later hb) (hq.later hb)
 have hql:=hq.lt
 have hLa:=hL.next hb
 have hq1:=hq.later hb
 cases hr:rdMsgM xs with
 | ok m =>
  have hD:decM xs = (m,0):=by unfold decM;rw [hr]
  rw [hD]
  refine (wcaught_dec_ok _ _ w (fun w1=>∃ b1 d1 b2 d2 b3 d3,Has w1 q 48 (msgC m b1 d1 b2 d2 b3 d3) ∧ MsgSl w1 m b1 d1 b2 d2 b3 d3 ∧ NewSl (w.alloc (.cells #[.int .i64 10] 52)).heap.size b1 b2 b3 ∧ OffF (fun k=>k = q) (w.alloc (.cells #[.int .i64 10] 52)) w1) (hd.mono ?_) ?_).mono ?_
  ·rintro e w1 (⟨m',hm',rfl,hh⟩ | ⟨k,hk,_⟩)
   ·rw [hr] at hm'
    obtain rfl:=Except.ok.inj hm'
    exact ⟨rfl,hh⟩
   ·rw [hr] at hk;cases hk
  ·rintro w1 ⟨b1,d1,b2,d2,b3,d3,h1,h2,h3,h4⟩
   have:=h4.has hE (fun z=>by have:w.heap.size = q:=z;omega)
   exact ⟨this.cell 0,this.free 0⟩
  ·rintro e w' ⟨rfl,w1,⟨b1,d1,b2,d2,b3,d3,h1,h2,h3,h4⟩,rfl⟩
   have hBt:But w.heap.size w1 (w1.setCell ⟨w.heap.size,0,none⟩ (.int .i64 0)):=xaq _ _ _
   refine ⟨rfl,b1,d1,b2,d2,b3,d3,hBt.has h1 (by omega),MsgSl.off h2 (OffF.but hBt) (fun ad had z=>by have:=h3.h1 ad had;have:ad.block = w.heap.size:=z;omega) (fun ad had z=>by have:=h3.h2 ad had;have:ad.block = w.heap.size:=z;omega) (fun ad had z=>by have:=h3.h3 ad had;have:ad.block = w.heap.size:=z;omega),⟨fun ad had=>by have:=h3.h1 ad had;omega,fun ad had=>by have:=h3.h2 ad had;omega,fun ad had=>by have:=h3.h3 ad had;omega⟩,?_⟩
   have h5:=(OffF.of (F:=fun k=>k = q) hb).trans h4
   exact ⟨hBt.os.trans h5.os,hBt.tape.trans h5.tape,hBt.output.trans h5.output,Nat.le_trans h5.size hBt.size,fun k hk hn=>(hBt.block k (Nat.lt_of_lt_of_le hk h5.size) (by omega)).trans (h5.block k hk hn)⟩
 | error k =>
  have hD:decM xs = (msg0,k):=by unfold decM;rw [hr]
  rw [hD]
  refine (wcaught_dec_err _ _ k w (fun w1=>Below (w.alloc (.cells #[.int .i64 10] 52)).heap.size (w.alloc (.cells #[.int .i64 10] 52)) w1) (hd.mono ?_) ?_).mono ?_
  ·rintro e w1 (⟨m',hm',_⟩ | ⟨k',hk,rfl,hb1⟩)
   ·rw [hr] at hm';cases hm'
   ·rw [hr] at hk
    obtain rfl:=Except.error.inj hk
    exact ⟨rfl,hb1⟩
  ·intro w1 hb1
   have:=hE.later hb1
   exact ⟨hLa.next hb1,this.cell 0,this.free 0⟩
  ·rintro e w' ⟨rfl,w1,W,hb1,hb2,rfl⟩
   have hbW:=hb1.trans (hb2.mono hb1.size)
   have hBt:But w.heap.size W (W.setCell ⟨w.heap.size,0,none⟩ (.int .i64 (k:Nat))):=xaq _ _ _
   refine ⟨rfl,none,0,none,0,none,0,hBt.has (hq1.later hbW) (by omega),⟨Sl.nothing _ _,Sl.nothing _ _,Sl.nothing _ _⟩,⟨(fun _ h=>by cases h),(fun _ h=>by cases h),fun _ h=>by cases h⟩,?_⟩
   have h5:=(OffF.of (F:=fun k=>k = q) hb).trans (OffF.of hbW)
   exact ⟨hBt.os.trans h5.os,hBt.tape.trans h5.tape,hBt.output.trans h5.output,Nat.le_trans h5.size hBt.size,fun k hk hn=>(hBt.block k (Nat.lt_of_lt_of_le hk h5.size) (by omega)).trans (h5.block k hk hn)⟩
set_option maxHeartbeats 4000000 in
theorem wdecode_any (ao:Option Addr) (n c:Nat) (xs:List UInt8) (w:World) (h:By w ao c xs) (hn:n = xs.length) (hlt:∀ ad,ao = some ad → ad.block < w.heap.size) (hL:Laid w) :
  Calls Tryz.prog 17 #[.slice ao n c] w fun e w'=>Below w.heap.size w w' ∧ ∃ b1 d1 b2 d2 b3 d3,e = .returned (.tuple #[.agg (msgC (decM xs).1 b1 d1 b2 d2 b3 d3),.int .i64 ((decM xs).2:Nat)]) ∧ MsgSl w' (decM xs).1 b1 d1 b2 d2 b3 d3:=by
 obtain ⟨w1,hw1,hP,hb1⟩:=xbr w 51 #[.slice ao n c]
 obtain ⟨w2,hw2,hR,hb2⟩:=xbr w1 48 (msgC msg0 none 0 none 0 none 0)
 obtain ⟨w3,hw3,hQ,hb3⟩:=xbr w2 48 (msgC msg0 none 0 none 0 none 0)
 have s1:w1.heap.size = w.heap.size + 1:=by rw [← hw1];simp
 have s2:w2.heap.size = w1.heap.size + 1:=by rw [← hw2];simp
 replace hP:=(hP.later hb2).later hb3
 replace hR:=hR.later hb3
 have hbW:Below w.heap.size w w3:=(hb1.trans (hb2.mono hb1.size)).trans (hb3.mono (Nat.le_trans hb1.size hb2.size))
 have hc:=caught_dec w.heap.size w2.heap.size ao n c xs w3 (h.later hbW) hn (fun ad had=>Nat.lt_of_lt_of_le (hlt ad had) hbW.size) hP hQ (hL.next hbW)
 have hmf:∀ (fn:Fn) (first cap:Array Value) (w:World),(Instr.makeFunc fn first cap).run Tryz.prog w = .ok (.func fn first cap) w:=fun _ _ _ _=>rfl
 replace hc:Hid _:=hc
 replace s1:Hid _:=s1
 replace s2:Hid _:=s2
 clear h hn hlt hL hb1 hb2 hb3
 go_enter Tryz.func17,Tryz.ntmps17
 go_wp2_with (first
  | (refine xac (by rfl) 48 rfl (msgC msg0 none 0 none 0 none 0) xbg ?_;first | (rw [hw2];clear hw2) | (rw [hw3];clear hw3))
  | fail)
 refine Calls.mono hc.out ?_
 rintro e w4 ⟨rfl,b1,d1,b2,d2,b3,d3,hV,sm,nw,hof⟩
 clear hc
 have z1:=s1.out
 have z2:=s2.out
 have hR4:=hof.has hR (fun z=>by have:w1.heap.size = w2.heap.size:=z;omega)
 have hb4:Below w.heap.size w w4:=hbW.trans (hof.below (fun b z=>by have:b = w2.heap.size:=z;omega) hbW.size)
 have hRr:=hR4.row (msgC (decM xs).1 b1 d1 b2 d2 b3 d3)
 have h1w:w.heap.size ≤ w1.heap.size:=by omega
 have hb5:=below_setRow hb4 h1w (msgC (decM xs).1 b1 d1 b2 d2 b3 d3)
 have h13:w1.heap.size < w3.heap.size:=hR.lt
 have sm5:=MsgSl.off sm (OffF.but (xbb w4 (g:=w1.heap.size) (msgC (decM xs).1 b1 d1 b2 d2 b3 d3))) (fun ad had z=>by have:=nw.h1 ad had;have:ad.block = w1.heap.size:=z;omega) (fun ad had z=>by have:=nw.h2 ad had;have:ad.block = w1.heap.size:=z;omega) (fun ad had z=>by have:=nw.h3 ad had;have:ad.block = w1.heap.size:=z;omega)
 clear z1 z2 h13 hof nw sm
 go_wp2_with (first
  | (refine xab (by rfl) 48 _ rfl w2.heap.size rfl 48 (msgC (decM xs).1 b1 d1 b2 d2 b3 d3) _ Tryz.underlying48 rfl (xah (decM xs).1 b1 b2 b3 d1 d2 d3) ?hg ?_;(case hg=>exact hV))
  | (refine xao (by rfl) 48 _ _ rfl w1.heap.size rfl (msgC (decM xs).1 b1 d1 b2 d2 b3 d3) rfl 48 (msgC msg0 none 0 none 0 none 0) (xah (decM xs).1 b1 b2 b3 d1 d2 d3) (xbe _ _ _ _ _ _ _ _ _ _ _ _ _ _) (xbn (decM xs).1 b1 b2 b3 d1 d2 d3) ?hg ?_;(case hg=>exact hR4))
  | fail)
 refine xes rfl w1.heap.size rfl 48 (msgC (decM xs).1 b1 d1 b2 d2 b3 d3) _ Tryz.underlying48 rfl (xah (decM xs).1 b1 b2 b3 d1 d2 d3) hRr rfl ⟨hb5,b1,d1,b2,d2,b3,d3,rfl,sm5⟩
end Go.Proofs.YtecilienolabfaaGreatDoor
