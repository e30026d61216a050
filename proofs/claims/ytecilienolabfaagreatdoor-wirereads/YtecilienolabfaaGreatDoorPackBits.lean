/- Several texts in one, in build order: Leaf, Read, Get, Text, GetText. -/
import Derived.Test.YtecilienolabfaaGreatDoorChecked
import Derived.Test.YtecilienolabfaaGreatDoorPackStraw
import Derived.WalkKit
import Derived.WalkSpells
import Derived.WalkLawsBesides
import Derived.Defers
import Derived.Recover
import Derived.Laws.Pointers
import Derived.Laws.IdiomStrings
import Derived.Deep.RegionWith
import Derived.Lib.AppendStr
/- Leaf: Contracts of bits.held, bits.appendNumber, bits.grown, bits.Put, bits.Mix, bits.Group, bits.Sum over this seat's program. -/
namespace Go.Proofs.YtecilienolabfaaGreatDoor
set_option maxRecDepth 100000
open Go.RowKit
set_option linter.unusedVariables false
theorem Tryz.infoByte:(Tryz.prog.info? 5).map (fun i=>(i.zero,i.size,i.bytes)) = some (some (.int .u8 0),1,1):=by kernel_rfl
theorem held_any1 (n:Int) (w:World) :
  Calls Tryz.prog 107 #[.int .i64 n] w fun e w'=>e = .returned (.int .i64 (heldI n)) ∧ w' = w:=by
 by_cases h1:n < 0
 ·have e:heldI n = 0:=by simp [heldI,h1]
  rw [e];clear e
  go_enter Tryz.func107,Tryz.ntmps107
  go_wp2
  go_ret
  exact ⟨rfl,rfl⟩
 ·by_cases h2:8 < n
  ·have e:heldI n = 8:=by simp [heldI,h1,h2]
   rw [e];clear e
   go_enter Tryz.func107,Tryz.ntmps107
   go_wp2
   go_ret
   exact ⟨rfl,rfl⟩
  ·have e:heldI n = n:=by simp [heldI,h1,h2]
   rw [e];clear e
   go_enter Tryz.func107,Tryz.ntmps107
   go_wp2
   go_ret
   exact ⟨rfl,rfl⟩
set_option maxHeartbeats 400000 in
theorem appnum_any (g n cap:Nat) (xs:List Value) (x:Int) (k:Nat) (w:World) (base:Nat) (hx0:0 ≤ x) (hx1:x < 18446744073709551616) (hk:k ≤ 8)
  (hown:w.ownsRow base 5 1 (.slice (some ⟨g,0,none⟩) n cap) n xs) (hfit:n + k ≤ cap) (hg:base ≤ g) (hbase:base ≤ w.heap.size) :
  Calls Tryz.prog 108 #[.slice (some ⟨g,0,none⟩) n cap,.int .u64 x,.int .i64 k] w fun e w' =>
   e = .returned (.slice (some ⟨g,0,none⟩) (n + k) cap) ∧ w'.ownsRow base 5 1 (.slice (some ⟨g,0,none⟩) (n + k) cap) (n + k) (xs ++ Bs (putB x.toNat k)) ∧ Below base w w':=by
 obtain ⟨i0,hi,hz0,hz1,hz2⟩:=info_parts Tryz.infoByte
 go_enter Tryz.func108,Tryz.ntmps108
 go_wp2
 go_loopw [0,7] (fun v i wr=>∃ m:Nat,m ≤ k ∧ i = .int .i64 (k - 1 - m) ∧ v = .slice (some ⟨g,0,none⟩) (n + m) cap ∧ wr.ownsRow base 5 1 (.slice (some ⟨g,0,none⟩) (n + m) cap) (n + m) (xs ++ (Bs (putB x.toNat k)).take m) ∧ Below base w wr)
  (fun _ i _=>(intOf i + 1).toNat)
 case atStart=>exact ⟨0,Nat.zero_le _,by go_num,rfl,by simpa using hown,Below.refl _ _⟩
 case round =>
  obtain ⟨m,hm,rfl,rfl,hownr,hb⟩:=hrel
  by_cases hlt:m < k
  ·go_wp2_with (at_builtin;refine wpList_append_fits _ rfl _ _ 51 rfl base 5 i0 1 Tryz.underlying51 hi hz1 g (n + m) cap _ rfl (hownr.alloc _) ⟨wr.heap.size,0,none⟩ 1 1 [.int .u8 (x / 2 ^ (8 * (k - 1 - m)) % 256)] rfl rfl ?c1 ?c2 ?c3 ?_)
   case c1 =>
    intro j u hj
    match j,hj with
    | 0,hj=>simp at hj;subst hj;simp [Addr.add]
   case c2=>intro u hu;simp at hu;subst hu;rfl
   case c3=>omega
   ·intro w1 hown' hgrow
    have hb':Below base w w1:=(hb.alloc (by have:=hb.size;omega) _).grown hgrow (by have:=hb.size;simp;omega) (by intro k' hk';simp at hk';omega)
    have R:=put_step hx0 hlt (by simpa using hown')
    clear hown' hgrow hownr hb
    go_wp2
    go_roundw
    case rel=>exact ⟨m + 1,by omega,by go_num,rfl,R,hb'⟩
    case measure=>simp [intOf];omega
  ·have:m = k:=by omega
   subst this
   go_wp2
   go_ret
   refine ⟨rfl,?_,hb⟩
   rw [List.take_of_length_le (by simp [Bs,putB])] at hownr
   exact hownr
set_option maxHeartbeats 400000 in
theorem xha (ao:Option Addr) (n c:Nat) (xs:List UInt8) (r:Int) (w:World) (h:By w ao c xs) (hn:n = xs.length) (hl:n ≤ 1099511627776) (hr0:0 ≤ r) (hr1:r ≤ 1000000) :
  Calls Tryz.prog 109 #[.slice ao n c,.int .i64 r] w fun e w' =>
   e = .returned (.slice (some ⟨w.heap.size,0,none⟩) n (n + r.toNat)) ∧ w'.ownsRow w.heap.size 5 1 (.slice (some ⟨w.heap.size,0,none⟩) n (n + r.toNat)) n (Bs xs) ∧ Below w.heap.size w w':=by
 obtain ⟨i0,hi,hz0,hz1,hz2⟩:=info_parts Tryz.infoByte
 obtain ⟨m,rfl⟩:=Int.eq_ofNat_of_zero_le hr0
 subst hn
 have hle:=h.le
 have hcap:=h.cap
 rw [Int.toNat_natCast]
 go_enter Tryz.func109,Tryz.ntmps109
 go_wp2_with (at_make;refine wpList_make_own _ rfl _ _ 51 rfl w.heap.size 5 i0 (.int .u8 0) 1 Tryz.underlying51 hi hz0 hz1 _ _ _ (xs.length + m) rfl rfl (by omega) ?b1 ?b2 ?b3 ?_)
 case b1=>rw [hz2];omega
 case b2=>unfold maxLen;omega
 case b3=>exact Nat.le_refl _
 intro w1 hown1 hgrow1
 have hb1:Below w.heap.size w w1:=(Below.refl _ _).grown hgrow1 (Nat.le_refl _) (by intro k hk;cases hk)
 have h1:=h.later hb1
 go_wp2_with (at_builtin;refine wpList_append_fits_any _ rfl _ _ 51 rfl w.heap.size 5 i0 1 Tryz.underlying51 hi hz1 w.heap.size 0 (xs.length + m) [] rfl hown1 ao xs.length c (Bs xs) rfl ?c1 ?c2 ?c3 ?c4 ?c5 ?_)
 case c1=>rw [xdx];omega
 case c2=>intro hz;have:=h.nil hz;omega
 case c3=>exact h1.at'
 case c4=>exact Bs_one _
 case c5=>omega
 intro w2 hown2 hgrow2
 have hb2:Below w.heap.size w w2:=hb1.grown hgrow2 hb1.size (by intro k hk;simp at hk;omega)
 clear hown1 hgrow1 hgrow2 h1 hb1
 go_wp2
 go_ret
 exact ⟨by simp,hown2,hb2⟩
set_option maxHeartbeats 400000 in
theorem put_any (ao:Option Addr) (n c:Nat) (xs:List UInt8) (x k:Int) (w:World) (h:By w ao c xs) (hn:n = xs.length) (hl:n ≤ 1099511627776) (hx0:0 ≤ x) (hx1:x < 18446744073709551616) :
  Calls Tryz.prog 75 #[.slice ao n c,.int .u64 x,.int .i64 k] w fun e w' =>
   ∃ m,m = (xs ++ putB x.toNat (heldI k).toNat).length ∧ e = .returned (.slice (some ⟨w.heap.size,0,none⟩) m m) ∧ By w' (some ⟨w.heap.size,0,none⟩) m (xs ++ putB x.toNat (heldI k).toNat) ∧ Below w.heap.size w w':=by
 obtain ⟨hk0,hk8⟩:=heldI_bd k
 obtain ⟨p,hp⟩:=Int.eq_ofNat_of_zero_le hk0
 have hp8:p ≤ 8:=by omega
 subst hn
 have hle:=h.le
 rw [hp,Int.toNat_natCast]
 clear hk0 hk8
 go_enter Tryz.func75,Tryz.ntmps75
 go_wp2_with (go_at_call 107;refine (held_any1 _ _).mono ?_;rintro e w' ⟨rfl,rfl⟩)
 refine (xha ao xs.length c xs _ _ h rfl hl (by omega) (by omega)).mono ?_
 rintro e w1 ⟨rfl,hown1,hb1⟩
 simp only [Int.toNat_natCast] at hown1
 go_wp2_with fail
 refine (appnum_any _ xs.length (xs.length + p) (Bs xs) x p w1 _ hx0 hx1 hp8 hown1 (by omega) (Nat.le_refl _) hb1.size).mono ?_
 rintro e w2 ⟨rfl,hown2,hb2⟩
 rw [← xgl] at hown2
 go_wp2
 go_ret
 refine ⟨xs.length + p,?_,rfl,By.own hown2 (by omega),hb1.trans hb2⟩
 rw [List.length_append,xal]
theorem put_new (x k:Int) (m:Nat) (w:World) (hm:(heldI k).toNat = m) (hx0:0 ≤ x) (hx1:x < 18446744073709551616) :
  Calls Tryz.prog 75 #[.slice none 0 0,.int .u64 x,.int .i64 k] w fun e w' =>
   e = .returned (.slice (some ⟨w.heap.size,0,none⟩) m m) ∧ By w' (some ⟨w.heap.size,0,none⟩) m (putB x.toNat m) ∧ Below w.heap.size w w':=by
 refine (put_any none 0 0 [] x k w (By.nothing w) rfl (by decide) hx0 hx1).mono ?_
 rintro e w' ⟨m',hm',rfl,hB,hb⟩
 rw [hm,List.nil_append] at hm' hB
 rw [xal] at hm'
 subst hm'
 exact ⟨rfl,hB,hb⟩
theorem sum_any (ao:Option Addr) (n c:Nat) (xs:List UInt8) (w:World) (h:By w ao c xs) (hn:n = xs.length) :
  Calls Tryz.prog 28 #[.slice ao n c] w fun e w'=>e = .returned (.int .u64 (sumN xs:Int)) ∧ w' = w:=by
 have hle:=h.le
 have hcap:=h.cap
 have HN:Hid (n = xs.length):=hn
 have hnn:n ≤ xs.length:=by omega
 rw [← hn] at hle
 clear hn
 go_enter Tryz.func28,Tryz.ntmps28
 go_wp2
 go_loop [3,8] (fun s i=>∃ k:Nat,k ≤ n ∧ i = .int .i64 k ∧ s = .int .u64 (sumN (xs.take k):Int)) (fun _ i=>n - (intOf i).toNat)
 case atStart=>exact ⟨0,Nat.zero_le _,rfl,rfl⟩
 case round =>
  obtain ⟨k,hk,rfl,rfl⟩:=hrel
  by_cases hlt:k < n
  ·cases ao with
   | none=>have:=h.nil rfl;omega
   | some ad =>
    have hc:=h.cell k (by have:=HN.out;omega)
    have hs:=xdi (xs.take k)
    have hx:xs[k].toNat < 256:=xs[k].toNat_lt
    have HS:Hid _:=sum_take xs k (by have:=HN.out;omega)
    go_wp2
    go_round
    case rel=>exact ⟨k + 1,by omega,by go_num,by rw [HS.out]⟩
    case measure=>simp [intOf];omega
  ·go_wp2
   go_ret
   exact ⟨by rw [List.take_of_length_le (by have:=HN.out;omega)];rfl,rfl⟩
end Go.Proofs.YtecilienolabfaaGreatDoor
/- Read: Contracts of what bits.Get and bits.GetText read by: take, number, caught and its closure, over this seat's program. -/
namespace Go.Proofs.YtecilienolabfaaGreatDoor
set_option maxRecDepth 100000
open Go.RowKit
set_option linter.unusedVariables false
def xay (ao:Option Addr) (c k:Nat):Option Addr:=if c = k then ao else ao.map (·.add k)
theorem take_ok (p:Addr) (ao:Option Addr) (n c k:Nat) (w:World) (hk:k ≤ n) (hn:n ≤ c) (hc:c ≤ 9223372036854775807)
  (hp:w.cell? p = some (.slice ao n c)) (hz:w.frozen? p = false) :
  Calls Tryz.prog 143 #[.pointer (some p),.int .i64 k] w fun e w' =>
   e = .returned (.slice ao k c) ∧ w' = w.setCell p (.slice (xay ao c k) (n - k) (c - k)):=by
 by_cases h:c = k
 ·subst h
  go_enter Tryz.func143,Tryz.ntmps143
  go_wp2
  go_ret
  refine ⟨rfl,?_⟩
  have e1:xay ao c c = ao:=by simp [xay]
  have e2:n - c = 0:=by omega
  rw [e1,e2,Nat.sub_self]
 ·have e:xay ao c k = ao.map (·.add k):=by simp [xay,h]
  rw [e];clear e
  go_enter Tryz.func143,Tryz.ntmps143
  go_wp2
  go_ret
  exact ⟨rfl,rfl⟩
theorem take_short (p:Addr) (ao:Option Addr) (n c k:Nat) (w:World) (hk:n < k) (hk':k ≤ 1000000) (hn:n ≤ c) (hc:c ≤ 9223372036854775807)
  (hp:w.cell? p = some (.slice ao n c)) :
  Calls Tryz.prog 143 #[.pointer (some p),.int .i64 k] w fun e w' =>
   e = .panicked [{ v:=.iface 52 (.int .i64 11),recovered:=false }] ∧ w' = w:=by
 go_enter Tryz.func143,Tryz.ntmps143
 go_wp2
 exact ⟨rfl,rfl,rfl⟩
theorem catch_idle (p:Addr) (w:World) :
  CallsD Tryz.prog 142 #[.pointer (some p)] .returning w fun e u' w'=>e = .returned (.tuple #[]) ∧ u' = .returning ∧ w' = w:=by
 refine callsD_of_wpS Tryz.func142 rfl fun c₀ cs hu=>?_
 apply wpS_seq
 apply wpS_region
 simp [wpOpsS,go_sem,recoverD,hu,Tryz.ntmps142,Exit.thenS]
 apply wpS_seq
 apply wpS_region
 simp [wpOpsS,go_sem,Exit.thenS,Array.replicate]
 refine wpS_cond (t:=false) (by simp [Act.eval]) ?_
 simp only [Bool.false_eq_true,if_false]
 refine wpS_of_wp (wp_skip ?_)
 cases c₀
 simp_all [bodyPostS,results,Tryz.results142]
theorem catch_panicking (p:Addr) (x y:Int) (older:List PanicEntry) (w:World) (hc:w.cell? p = some (.int .i64 y)) (hz:w.frozen? p = false) :
  CallsD Tryz.prog 142 #[.pointer (some p)] (.panicking ({ v:=.iface 52 (.int .i64 x),recovered:=false } :: older)) w fun e u' w' =>
   e = .returned (.tuple #[]) ∧ u' = .panicking ({ v:=.iface 52 (.int .i64 x),recovered:=true } :: older) ∧ w' = w.setCell p (.int .i64 x):=by
 refine callsD_of_wpS Tryz.func142 rfl fun c₀ cs hu=>?_
 apply wpS_seq
 apply wpS_region
 simp [wpOpsS,go_sem,recoverD,hu,Tryz.ntmps142,Exit.thenS]
 apply wpS_seq
 apply wpS_region
 simp [wpOpsS,go_sem,Exit.thenS,Array.replicate]
 refine wpS_cond (t:=true) (by simp [Act.eval]) ?_
 simp only [if_true]
 apply wpS_region
 have hta:∀ (x:Int) (w:World),(Instr.typeAssert (.iface 52 (.int .i64 x)) 20 52 false).run Tryz.prog w = .ok (.int .i64 x) w:=fun _ _=>by kernel_rfl
 simp [wpOpsS,go_sem,hc,hz,hta,bodyPostS,results,Tryz.results142]
theorem By.rest {w:World} {ao:Option Addr} {c k:Nat} {xs:List UInt8} (h:By w ao c xs) (hk:k ≤ xs.length):By w (xay ao c k) (c - k) (xs.drop k):=by
 refine ⟨by have:=h.le;rw [List.length_drop];omega,by have:=h.cap;omega,fun hz=>?_,fun ad had j u hu=>?_⟩
 ·unfold xay at hz
  split at hz
  ·omega
  ·have:=h.nil (by simpa using hz);omega
 ·have hj:k + j < xs.length:=by
   have:=(List.getElem?_eq_some_iff.1 hu).1
   rw [xdx,List.length_drop] at this
   omega
  have hc:¬ c = k:=by have:=h.le;omega
  simp only [xay,if_neg hc,Option.map_eq_some_iff] at had
  obtain ⟨a,ha,rfl⟩:=had
  have e:(a.add k).add j = a.add (k + j):=by
   unfold Addr.add
   by_cases hk0:k = 0 <;> by_cases hj0:j = 0 <;> simp [hk0,hj0,Nat.add_assoc]
  rw [e]
  refine h.at' a ha (k + j) u ?_
  rw [← hu]
  simp [Bs]
theorem By.first {w:World} {ao:Option Addr} {c:Nat} {xs:List UInt8} (h:By w ao c xs) (k:Nat):By w ao c (xs.take k):=by
 refine ⟨by have:=h.le;rw [List.length_take];omega,h.cap,h.nil,fun ad had j u hu=>h.at' ad had j u ?_⟩
 simp only [Bs,List.map_take] at hu ⊢
 rw [List.getElem?_take] at hu
 split at hu
 ·exact hu
 ·cases hu
theorem number_ok (p:Addr) (ao:Option Addr) (n c k:Nat) (xs:List UInt8) (w:World) (h:By w ao c xs) (hn:n = xs.length) (hk:k ≤ n)
  (hp:w.cell? p = some (.slice ao n c)) (hz:w.frozen? p = false) (hne:∀ ad,ao = some ad → 0 < xs.length → ad.block ≠ p.block) :
  Calls Tryz.prog 141 #[.pointer (some p),.int .i64 k] w fun e w' =>
   e = .returned (.int .u64 (getN (xs.take k):Int)) ∧ w' = w.setCell p (.slice (xay ao c k) (n - k) (c - k)):=by
 subst hn
 have hle:=h.le
 have hcap:=h.cap
 go_enter Tryz.func141,Tryz.ntmps141
 go_wp2_with (go_at_call 143;refine (take_ok p ao xs.length c k _ hk hle hcap hp hz).mono ?_;rintro e w' ⟨rfl,rfl⟩)
 generalize hw1:w.setCell p (.slice (xay ao c k) (xs.length - k) (c - k)) = w1 at *
 go_loop [5,12] (fun s i=>∃ m:Nat,m ≤ k ∧ i = .int .i64 m ∧ s = .int .u64 (getN (xs.take m):Int)) (fun _ i=>k - (intOf i).toNat)
 case atStart=>exact ⟨0,Nat.zero_le _,rfl,rfl⟩
 case round =>
  obtain ⟨m,hm,rfl,rfl⟩:=hrel
  by_cases hlt:m < k
  ·cases ao with
   | none=>have:=h.nil rfl;omega
   | some ad =>
    have hc:w1.cell? (ad.add m) = some (.int .u8 (xs[m].toNat:Int)):=by
     rw [← hw1,World.cell?_setCell_other]
     ·exact h.cell m (by omega)
     ·intro hpa
      have:=hne ad rfl (by omega)
      rw [hpa] at this
      apply this
      unfold Addr.add
      split <;> rfl
    have hs:=getN_lt (xs.take m)
    have hx:xs[m].toNat < 256:=xs[m].toNat_lt
    have HS:Hid _:=get_take xs m (by omega)
    clear hw1
    go_wp2
    go_round
    case rel=>exact ⟨m + 1,by omega,by go_num,by rw [HS.out]⟩
    case measure=>simp [intOf];omega
  ·have hmk:m = k:=by omega
   subst hmk
   go_wp2
   go_ret
   exact ⟨rfl,rfl⟩
theorem number_short (p:Addr) (ao:Option Addr) (n c k:Nat) (w:World) (hk:n < k) (hk':k ≤ 1000000) (hn:n ≤ c) (hc:c ≤ 9223372036854775807)
  (hp:w.cell? p = some (.slice ao n c)) :
  Calls Tryz.prog 141 #[.pointer (some p),.int .i64 k] w fun e w' =>
   e = .panicked [{ v:=.iface 52 (.int .i64 11),recovered:=false }] ∧ w' = w:=by
 go_enter Tryz.func141,Tryz.ntmps141
 go_wp2_with (go_at_call 143;refine (take_short p ao n c k _ hk hk' hn hc hp).mono ?_;rintro e w' ⟨rfl,rfl⟩)
 exact ⟨rfl,rfl,rfl⟩
theorem get1_ok (r b q:Addr) (ao:Option Addr) (n c:Nat) (xs:List UInt8) (k z:Int) (w:World) (h:By w ao c xs) (hn:n = xs.length) (hk:heldI k ≤ n)
  (hr:w.cell? r = some (.slice ao n c)) (hb:w.cell? b = some (.int .i64 k)) (hq:w.cell? q = some (.int .u64 z)) (zr:w.frozen? r = false) (zq:w.frozen? q = false)
  (hne:∀ ad,ao = some ad → 0 < xs.length → ad.block ≠ r.block) (hrq:r.block ≠ q.block) :
  Calls Tryz.prog 140 #[.pointer (some r),.pointer (some b),.pointer (some q)] w fun e w' =>
   e = .returned (.tuple #[]) ∧ w' = (w.setCell r (.slice (xay ao c (heldI k).toNat) (n - (heldI k).toNat) (c - (heldI k).toNat))).setCell q (.int .u64 (getN (xs.take (heldI k).toNat):Int)):=by
 obtain ⟨hk0,hk8⟩:=heldI_bd k
 obtain ⟨m,hm⟩:=Int.eq_ofNat_of_zero_le hk0
 rw [hm,Int.toNat_natCast]
 have hmn:m ≤ n:=by omega
 clear hk hk0 hk8
 subst hn
 have hq':(w.setCell r (.slice (xay ao c m) (xs.length - m) (c - m))).cell? q = some (.int .u64 z):=by
  rw [World.cell?_setCell_other]
  ·exact hq
  ·intro e;exact hrq (by rw [e])
 go_enter Tryz.func140,Tryz.ntmps140
 go_wp2_with (first | (go_at_call 107;refine (held_any1 _ _).mono ?_;rintro e w' ⟨rfl,rfl⟩) | (go_at_call 141;refine (number_ok r ao xs.length c m xs _ h rfl hmn hr zr hne).mono ?_;rintro e w' ⟨rfl,rfl⟩))
 go_end0
 exact ⟨rfl,rfl⟩
theorem get1_short (r b q:Addr) (ao:Option Addr) (n c:Nat) (k:Int) (w:World) (hn:n ≤ c) (hc:c ≤ 9223372036854775807) (hk:n < heldI k)
  (hr:w.cell? r = some (.slice ao n c)) (hb:w.cell? b = some (.int .i64 k)) :
  Calls Tryz.prog 140 #[.pointer (some r),.pointer (some b),.pointer (some q)] w fun e w' =>
   e = .panicked [{ v:=.iface 52 (.int .i64 11),recovered:=false }] ∧ w' = w:=by
 obtain ⟨hk0,hk8⟩:=heldI_bd k
 obtain ⟨m,hm⟩:=Int.eq_ofNat_of_zero_le hk0
 have hmn:n < m:=by omega
 have hm8:m ≤ 8:=by omega
 clear hk hk0 hk8
 go_enter Tryz.func140,Tryz.ntmps140
 go_wp2_with (first | (go_at_call 107;refine (held_any1 _ _).mono ?_;rintro e w' ⟨rfl,rfl⟩) | (go_at_call 141;refine (number_short r ao n c m _ hmn (by omega) hn hc hr).mono ?_;rintro e w' ⟨rfl,rfl⟩))
 exact ⟨rfl,rfl,rfl⟩
theorem caught_get_ok (a b q:Value) (w w1:World)
  (hF:Calls Tryz.prog 140 #[a,b,q] (w.alloc (.cells #[.int .i64 0] 52)) fun e w'=>e = .returned (.tuple #[]) ∧ w' = w1)
  (hc:w1.cell? ⟨w.heap.size,0,none⟩ = some (.int .i64 0)) (hz:w1.frozen? ⟨w.heap.size,0,none⟩ = false) :
  Calls Tryz.prog 139 #[.func (.func 140) #[] #[a,b,q]] w fun e w'=>e = .returned (.int .i64 0) ∧ w' = w1.setCell ⟨w.heap.size,0,none⟩ (.int .i64 0):=by
 have hmf:∀ (fn:Fn) (first cap:Array Value) (w:World),(Instr.makeFunc fn first cap).run Tryz.prog w = .ok (.func fn first cap) w:=fun _ _ _ _=>rfl
 have H:Hid (Calls Tryz.prog 140 #[a,b,q] (w.alloc (.cells #[.int .i64 0] 52)) fun e w'=>e = .returned (.tuple #[]) ∧ w' = w1):=hF
 clear hF
 go_enter_defers Tryz.func139,Tryz.ntmps139
 go_wp2_with fail
 refine H.out.mono ?_
 rintro e w' ⟨rfl,rfl⟩
 go_wp2
 refine leaves_cons (f:=142) (args:=#[.pointer (some ⟨w.heap.size,0,none⟩)]) (by simp) (by simp [go_sem]) ?_
 refine (catch_idle ⟨w.heap.size,0,none⟩ _).mono ?_
 rintro e u' w'' ⟨rfl,rfl,rfl⟩
 have hc2:(w'.setCell ⟨w.heap.size,0,none⟩ (.int .i64 0)).cell? ⟨w.heap.size,0,none⟩ = some (.int .i64 0):=by
  rw [World.cell?_setCell_same _ _ _ hc]
 simp [Leaves,settle,results,Tryz.results139,go_sem,hc2]
theorem caught_get_err (a b q:Value) (x:Int) (w w1:World)
  (hF:Calls Tryz.prog 140 #[a,b,q] (w.alloc (.cells #[.int .i64 0] 52)) fun e w'=>e = .panicked [{ v:=.iface 52 (.int .i64 x),recovered:=false }] ∧ w' = w1)
  (hc:w1.cell? ⟨w.heap.size,0,none⟩ = some (.int .i64 0)) (hz:w1.frozen? ⟨w.heap.size,0,none⟩ = false) :
  Calls Tryz.prog 139 #[.func (.func 140) #[] #[a,b,q]] w fun e w'=>e = .returned (.int .i64 x) ∧ w' = w1.setCell ⟨w.heap.size,0,none⟩ (.int .i64 x):=by
 have hmf:∀ (fn:Fn) (first cap:Array Value) (w:World),(Instr.makeFunc fn first cap).run Tryz.prog w = .ok (.func fn first cap) w:=fun _ _ _ _=>rfl
 have H:Hid (Calls Tryz.prog 140 #[a,b,q] (w.alloc (.cells #[.int .i64 0] 52)) fun e w'=>e = .panicked [{ v:=.iface 52 (.int .i64 x),recovered:=false }] ∧ w' = w1):=hF
 clear hF
 go_enter_defers Tryz.func139,Tryz.ntmps139
 go_wp2_with fail
 refine H.out.mono ?_
 rintro e w' ⟨rfl,rfl⟩
 go_wp2
 refine leaves_cons (f:=142) (args:=#[.pointer (some ⟨w.heap.size,0,none⟩)]) (by simp) (by simp [go_sem]) ?_
 refine (catch_panicking ⟨w.heap.size,0,none⟩ x 0 [] _ hc hz).mono ?_
 rintro e u' w'' ⟨rfl,rfl,rfl⟩
 have hc2:(w'.setCell ⟨w.heap.size,0,none⟩ (.int .i64 x)).cell? ⟨w.heap.size,0,none⟩ = some (.int .i64 x):=by
  rw [World.cell?_setCell_same _ _ _ hc]
 simp [Leaves,settle,results,Tryz.results139,go_sem,hc2]
end Go.Proofs.YtecilienolabfaaGreatDoor
/- Get: The contracts of bits.Get over this seat's program: enough bytes; too few. -/
namespace Go.Proofs.YtecilienolabfaaGreatDoor
set_option maxRecDepth 100000
open Go.RowKit
def gotW (w:World) (ao:Option Addr) (n c:Nat) (k:Int):World :=
 ((w.alloc (.cells #[.int .i64 k] 3)).alloc (.cells #[.slice ao n c] 201)).alloc (.cells #[.int .u64 0] 84)
theorem gotW_size (w:World) (ao:Option Addr) (n c:Nat) (k:Int):(gotW w ao n c k).heap.size = w.heap.size + 3:=by simp [gotW]
theorem gotW_below (w:World) (ao:Option Addr) (n c:Nat) (k:Int):Below w.heap.size w (gotW w ao n c k):=by
 unfold gotW
 exact (((Below.refl _ _).alloc (Nat.le_refl _) _).alloc (by simp) _).alloc (by simp;omega) _
theorem caught_here_ok (w:World) (ao:Option Addr) (c:Nat) (xs:List UInt8) (k:Int) (h:By w ao c xs) (hk:heldI k ≤ xs.length) :
  Calls Tryz.prog 139 #[.func (.func 140) #[] #[.pointer (some ⟨w.heap.size + 1,0,none⟩),.pointer (some ⟨w.heap.size,0,none⟩),.pointer (some ⟨w.heap.size + 1 + 1,0,none⟩)]] (gotW w ao xs.length c k) fun e w' =>
   e = .returned (.int .i64 0) ∧ w'.cell? ⟨w.heap.size + 1,0,none⟩ = some (.slice (xay ao c (heldI k).toNat) (xs.length - (heldI k).toNat) (c - (heldI k).toNat)) ∧
    w'.cell? ⟨w.heap.size + 1 + 1,0,none⟩ = some (.int .u64 (getN (xs.take (heldI k).toNat):Int)) ∧ Below w.heap.size w w' ∧ w.heap.size + 3 < w'.heap.size:=by
 have hb:=gotW_below w ao xs.length c k
 have hs:=gotW_size w ao xs.length c k
 have cr:(gotW w ao xs.length c k).cell? ⟨w.heap.size + 1,0,none⟩ = some (.slice ao xs.length c):=by simp [gotW,go_sem]
 have cb:(gotW w ao xs.length c k).cell? ⟨w.heap.size,0,none⟩ = some (.int .i64 k):=by simp [gotW,go_sem]
 have cq:(gotW w ao xs.length c k).cell? ⟨w.heap.size + 1 + 1,0,none⟩ = some (.int .u64 0):=by simp [gotW,go_sem]
 have zr:(gotW w ao xs.length c k).frozen? ⟨w.heap.size + 1,0,none⟩ = false:=by simp [gotW,go_sem]
 have zq:(gotW w ao xs.length c k).frozen? ⟨w.heap.size + 1 + 1,0,none⟩ = false:=by simp [gotW,go_sem]
 have hW:=h.later hb
 have hne:∀ ad,ao = some ad → 0 < xs.length → ad.block ≠ w.heap.size + 1:=by
  intro ad had hl
  have:=World.block_lt_of_cell? w _ (h.at' ad had 0 _ (Bs_at hl))
  simp [Addr.add] at this
  omega
 generalize gotW w ao xs.length c k = W at *
 have bE:Below w.heap.size w (W.alloc (.cells #[.int .i64 0] 52)):=hb.alloc (by omega) _
 have bE':Below W.heap.size W (W.alloc (.cells #[.int .i64 0] 52)):=(Below.refl _ _).alloc (Nat.le_refl _) _
 have cr':=(World.cell?_alloc_past (w:=W) (.cells #[.int .i64 0] 52) (w.heap.size + 1) 0 (by omega)).trans cr
 have cb':=(World.cell?_alloc_past (w:=W) (.cells #[.int .i64 0] 52) w.heap.size 0 (by omega)).trans cb
 have cq':=(World.cell?_alloc_past (w:=W) (.cells #[.int .i64 0] 52) (w.heap.size + 1 + 1) 0 (by omega)).trans cq
 have zr':=(World.frozen?_alloc_past (w:=W) (.cells #[.int .i64 0] 52) (w.heap.size + 1) 0 (by omega)).trans zr
 have zq':=(World.frozen?_alloc_past (w:=W) (.cells #[.int .i64 0] 52) (w.heap.size + 1 + 1) 0 (by omega)).trans zq
 have ce:(W.alloc (.cells #[.int .i64 0] 52)).cell? ⟨W.heap.size,0,none⟩ = some (.int .i64 0):=by simp [go_sem]
 have ze:(W.alloc (.cells #[.int .i64 0] 52)).frozen? ⟨W.heap.size,0,none⟩ = false:=by simp [go_sem]
 have hsz:(W.alloc (.cells #[.int .i64 0] 52)).heap.size = W.heap.size + 1:=by simp
 have hF:=get1_ok ⟨w.heap.size + 1,0,none⟩ ⟨w.heap.size,0,none⟩ ⟨w.heap.size + 1 + 1,0,none⟩ ao xs.length c xs k 0 (W.alloc (.cells #[.int .i64 0] 52)) (hW.later bE') rfl hk cr' cb' cq' zr' zq' hne (by simp)
 generalize hV1:Value.slice (xay ao c (heldI k).toNat) (xs.length - (heldI k).toNat) (c - (heldI k).toNat) = V1 at *
 generalize hV2:Value.int .u64 (getN (xs.take (heldI k).toNat):Int) = V2 at *
 have ne1:(⟨w.heap.size + 1,0,none⟩:Addr) ≠ ⟨w.heap.size + 1 + 1,0,none⟩:=by simp
 have ne2:(⟨W.heap.size,0,none⟩:Addr) ≠ ⟨w.heap.size + 1 + 1,0,none⟩:=by simp [hs]
 have ne3:(⟨W.heap.size,0,none⟩:Addr) ≠ ⟨w.heap.size + 1,0,none⟩:=by simp [hs]
 refine (caught_get_ok _ _ _ W _ hF ?_ ?_).mono ?_
 ·rw [World.cell?_setCell_other _ _ _ _ ne2.symm,World.cell?_setCell_other _ _ _ _ ne3.symm]
  exact ce
 ·rw [World.frozen?_setCell,World.frozen?_setCell]
  exact ze
 ·rintro e w' ⟨rfl,rfl⟩
  refine ⟨rfl,?_,?_,?_,?_⟩
  ·rw [World.cell?_setCell_other _ _ _ _ ne3,World.cell?_setCell_other _ _ _ _ ne1.symm,World.cell?_setCell_same _ _ _ cr']
  ·rw [World.cell?_setCell_other _ _ _ _ ne2,World.cell?_setCell_same _ _ _ ((World.cell?_setCell_other _ _ _ _ ne1).trans cq')]
  ·exact ((bE.setCell (by simp) _).setCell (by simp;omega) _).setCell (by simp;omega) _
  ·simp [World.setCell];omega
theorem caught_here_short (w:World) (ao:Option Addr) (c:Nat) (xs:List UInt8) (k:Int) (h:By w ao c xs) (hk:xs.length < heldI k) :
  Calls Tryz.prog 139 #[.func (.func 140) #[] #[.pointer (some ⟨w.heap.size + 1,0,none⟩),.pointer (some ⟨w.heap.size,0,none⟩),.pointer (some ⟨w.heap.size + 1 + 1,0,none⟩)]] (gotW w ao xs.length c k) fun e w' =>
   e = .returned (.int .i64 11) ∧ Below w.heap.size w w':=by
 have hb:=gotW_below w ao xs.length c k
 have hs:=gotW_size w ao xs.length c k
 have cr:(gotW w ao xs.length c k).cell? ⟨w.heap.size + 1,0,none⟩ = some (.slice ao xs.length c):=by simp [gotW,go_sem]
 have cb:(gotW w ao xs.length c k).cell? ⟨w.heap.size,0,none⟩ = some (.int .i64 k):=by simp [gotW,go_sem]
 generalize gotW w ao xs.length c k = W at *
 have bE:Below w.heap.size w (W.alloc (.cells #[.int .i64 0] 52)):=hb.alloc (by omega) _
 have cr':=(World.cell?_alloc_past (w:=W) (.cells #[.int .i64 0] 52) (w.heap.size + 1) 0 (by omega)).trans cr
 have cb':=(World.cell?_alloc_past (w:=W) (.cells #[.int .i64 0] 52) w.heap.size 0 (by omega)).trans cb
 have ce:(W.alloc (.cells #[.int .i64 0] 52)).cell? ⟨W.heap.size,0,none⟩ = some (.int .i64 0):=by simp [go_sem]
 have ze:(W.alloc (.cells #[.int .i64 0] 52)).frozen? ⟨W.heap.size,0,none⟩ = false:=by simp [go_sem]
 have hF:=get1_short ⟨w.heap.size + 1,0,none⟩ ⟨w.heap.size,0,none⟩ ⟨w.heap.size + 1 + 1,0,none⟩ ao xs.length c k (W.alloc (.cells #[.int .i64 0] 52)) h.le h.cap hk cr' cb'
 refine (caught_get_err _ _ _ 11 W _ hF ce ze).mono ?_
 rintro e w' ⟨rfl,rfl⟩
 exact ⟨rfl,bE.setCell (by simp;omega) _⟩
set_option maxHeartbeats 800000 in
theorem get_ok (ao:Option Addr) (n c:Nat) (xs:List UInt8) (k:Int) (w:World) (h:By w ao c xs) (hn:n = xs.length) (hl:n ≤ 1099511627776) (hk:heldI k ≤ n) :
  Calls Tryz.prog 136 #[.slice ao n c,.int .i64 k] w fun e w' =>
   ∃ g c',e = .returned (.tuple #[.int .u64 (getN (xs.take (heldI k).toNat):Int),.slice (some ⟨g,0,none⟩) (n - (heldI k).toNat) c',.int .i64 0]) ∧ By w' (some ⟨g,0,none⟩) c' (xs.drop (heldI k).toNat) ∧ Below w.heap.size w w':=by
 have hmf:∀ (fn:Fn) (first cap:Array Value) (w:World),(Instr.makeFunc fn first cap).run Tryz.prog w = .ok (.func fn first cap) w:=fun _ _ _ _=>rfl
 subst hn
 go_enter Tryz.func136,Tryz.ntmps136
 go_wp2_with fail
 refine (caught_here_ok w ao c xs k h hk).mono ?_
 rintro e w1 ⟨rfl,cr,cq,hb,hs⟩
 have hR:=(h.later hb).rest (k:=(heldI k).toNat) (by omega)
 have hL:Hid (xs.length - (heldI k).toNat = (xs.drop (heldI k).toNat).length):=by show _ = _;rw [List.length_drop]
 go_wp2_with fail
 go_region_with (go_at_call 109;refine (xha _ _ _ _ 0 _ (hR.later ?_) hL.out (by omega) (by decide) (by decide)).mono ?_;exact (Below.refl _ _).drew;rintro e w2 ⟨rfl,hown,hb2⟩;have cq2:=(hb2.cell (p:=⟨w.heap.size + 1 + 1,0,none⟩) (by simp;omega)).trans cq)
 all_goals
  have hb3:Below w.heap.size w w2:=hb.trans ((of_drew hb2).mono (by show w.heap.size ≤ w1.heap.size;omega))
  have hcap:xs.length - (heldI k).toNat + Int.toNat 0 ≤ 9223372036854775807:=by simp;omega
  have R:=By.own hown hcap
  clear hown hb2 cq2 hcap
  go_wp2
  go_ret3
  exact ⟨_,_,rfl,R,hb3⟩
set_option maxHeartbeats 800000 in
theorem get_short (ao:Option Addr) (n c:Nat) (xs:List UInt8) (k:Int) (w:World) (h:By w ao c xs) (hn:n = xs.length) (hl:n ≤ 1099511627776) (hk:n < heldI k) :
  Calls Tryz.prog 136 #[.slice ao n c,.int .i64 k] w fun e w' =>
   ∃ g c',e = .returned (.tuple #[.int .u64 0,.slice (some ⟨g,0,none⟩) n c',.int .i64 11]) ∧ By w' (some ⟨g,0,none⟩) c' xs ∧ Below w.heap.size w w':=by
 have hmf:∀ (fn:Fn) (first cap:Array Value) (w:World),(Instr.makeFunc fn first cap).run Tryz.prog w = .ok (.func fn first cap) w:=fun _ _ _ _=>rfl
 subst hn
 go_enter Tryz.func136,Tryz.ntmps136
 go_wp2_with fail
 refine (caught_here_short w ao c xs k h hk).mono ?_
 rintro e w1 ⟨rfl,hb⟩
 go_wp2_with fail
 refine (xha ao xs.length c xs 0 w1 (h.later hb) rfl hl (by decide) (by decide)).mono ?_
 rintro e w2 ⟨rfl,hown,hb2⟩
 have hb3:Below w.heap.size w w2:=hb.trans (hb2.mono hb.size)
 have R:=By.own hown (by simp;omega)
 clear hown hb2
 go_wp2
 go_ret3
 exact ⟨_,_,rfl,R,hb3⟩
theorem str_of1 {w:World} {ao:Option Addr} {c n:Nat} {xs:List UInt8} (h:By w ao c xs) (hn:n = xs.length) :
  (convert 51 9 (.slice ao n c)).run Tryz.prog w = .ok (.string ⟨xs.toArray⟩) w:=by
 subst hn
 cases ao with
 | none =>
  have h0:xs = []:=by have:=h.nil rfl;have:=h.le;exact List.eq_nil_of_length_eq_zero (by omega)
  subst h0
  rw [run_convert_bytes_string w 51 9 5 _ _ c Tryz.underlying51 Tryz.underlying5 Tryz.underlying9]
  simp [Conv.bytesToString]
  rfl
 | some ad=>exact run_convert_bytes_back w 51 9 5 ad c xs Tryz.underlying51 Tryz.underlying5 Tryz.underlying9 (fun j hj=>h.cell j hj)
end Go.Proofs.YtecilienolabfaaGreatDoor
/- Text: The contracts of bits.Text, and of what bits.GetText reads by: reader.text and its closure. -/
namespace Go.Proofs.YtecilienolabfaaGreatDoor
set_option maxRecDepth 100000
open Go.RowKit
set_option linter.unusedVariables false
def strB (s:ByteArray):List UInt8:=s.data.toList
def txtB (s:ByteArray):List UInt8:=putB s.size 2 ++ strB s
theorem strCells_is (s:ByteArray):Lib.strCells s = Bs (strB s):=rfl
theorem xbw {w:World} {base n:Nat} {v:Value} {xs:List Value} (h:w.ownsRow base 5 1 v n xs) (hn:n ≠ 0):∃ g cap,v = .slice (some ⟨g,0,none⟩) n cap ∧ base ≤ g ∧ cap ≤ 9223372036854775807:=by
 rcases h.2 with ⟨_,h⟩ | ⟨g,cap,cur,hv,hg,_,_,hm,_⟩
 ·exact absurd h hn
 ·exact ⟨g,cap,hv,hg,hm⟩
theorem appnum2 (g n cap:Nat) (xs:List Value) (x:Nat) (w:World) (base:Nat) (hx1:x < 18446744073709551616)
  (hown:w.ownsRow base 5 1 (.slice (some ⟨g,0,none⟩) n cap) n xs) (hfit:n + 2 ≤ cap) (hg:base ≤ g) (hbase:base ≤ w.heap.size) :
  Calls Tryz.prog 108 #[.slice (some ⟨g,0,none⟩) n cap,.int .u64 x,.int .i64 2] w fun e w' =>
   e = .returned (.slice (some ⟨g,0,none⟩) (n + 2) cap) ∧ w'.ownsRow base 5 1 (.slice (some ⟨g,0,none⟩) (n + 2) cap) (n + 2) (xs ++ Bs (putB x 2)) ∧ Below base w w' :=
 appnum_any g n cap xs x 2 w base (by omega) (by omega) (by decide) hown hfit hg hbase
set_option maxHeartbeats 800000 in
theorem text_any (ao:Option Addr) (n c:Nat) (xs:List UInt8) (s:ByteArray) (w:World) (h:By w ao c xs) (hn:n = xs.length) (hl:n ≤ 1099511627776) (hs:s.size ≤ 65535) :
  Calls Tryz.prog 163 #[.slice ao n c,.string s] w fun e w' =>
   ∃ g c',e = .returned (.slice (some ⟨g,0,none⟩) (n + (s.size + 2)) c') ∧ By w' (some ⟨g,0,none⟩) c' (xs ++ txtB s) ∧ Below w.heap.size w w':=by
 subst hn
 obtain ⟨i0,hi,hz0,hz1,hz2⟩:=info_parts Tryz.infoByte
 have hsI:(s.size:Int) ≤ 65535:=by omega
 go_enter Tryz.func163,Tryz.ntmps163
 go_wp2_with fail
 refine (xha ao xs.length c xs (2 + (s.size:Int)) w h rfl hl (by omega) (by omega)).mono ?_
 rintro e w1 ⟨rfl,hown1,hb1⟩
 have e1:(2 + (s.size:Int)).toNat = 2 + s.size:=by omega
 rw [e1] at hown1
 go_wp2_with fail
 refine (appnum2 _ xs.length (xs.length + (2 + s.size)) (Bs xs) s.size w1 _ (by omega) hown1 (by omega) (Nat.le_refl _) hb1.size).mono ?_
 rintro e w2 ⟨rfl,hown2,hb2⟩
 rw [← xgl] at hown2
 have hb3:Below w.heap.size w w2:=hb1.trans hb2
 clear hown1 hb1 hb2 e1
 go_wp2_with (at_builtin;refine Lib.wpList_append_own_string _ rfl _ _ 51 9 rfl w.heap.size 5 i0 Tryz.underlying51 Tryz.underlying9 hi hz0 hz1 hz2 _ (xs.length + 2) _ rfl hown2 s rfl (by unfold maxLen;omega) (by omega) hb3.size ?_)
 intro v w3 hown3 hgrow hnil
 rw [strCells_is,← xgl] at hown3
 have hb4:Below w.heap.size w w3:=hb3.grown hgrow hb3.size (by intro k hk;simp [Value.ownBlock] at hk;omega)
 obtain ⟨g,cap,rfl,hg,hc2⟩:=xbw hown3 (by omega)
 have hB:=By.own hown3 hc2
 clear hown2 hown3 hgrow hnil hb3
 go_wp2
 go_ret
 refine ⟨g,cap,?_,?_,hb4⟩
 ·have e2:xs.length + 2 + s.size = xs.length + (s.size + 2):=by omega
  rw [← e2]
  rfl
 ·rw [txtB,← List.append_assoc]
  exact hB
def lenN (xs:List UInt8):Nat:=getN (xs.take 2)
theorem lenN_lt (xs:List UInt8):lenN xs < 65536:=by
 unfold lenN
 match xs with
 | []=>decide
 | [a] =>
  have ha:a.toNat < 256:=a.toNat_lt
  simp [getN]
  omega
 | a :: b :: r =>
  have ha:a.toNat < 256:=a.toNat_lt
  have hb:b.toNat < 256:=b.toNat_lt
  simp [getN]
  omega
theorem number2_ok (p:Addr) (ao:Option Addr) (n c:Nat) (xs:List UInt8) (w:World) (h:By w ao c xs) (hn:n = xs.length) (hk:2 ≤ n)
  (hp:w.cell? p = some (.slice ao n c)) (hz:w.frozen? p = false) (hne:∀ ad,ao = some ad → 0 < xs.length → ad.block ≠ p.block) :
  Calls Tryz.prog 141 #[.pointer (some p),.int .i64 2] w fun e w' =>
   e = .returned (.int .u64 (lenN xs:Int)) ∧ w' = w.setCell p (.slice (xay ao c 2) (n - 2) (c - 2)):=number_ok p ao n c 2 xs w h hn hk hp hz hne
theorem number2_short (p:Addr) (ao:Option Addr) (n c:Nat) (w:World) (hk:n < 2) (hn:n ≤ c) (hc:c ≤ 9223372036854775807)
  (hp:w.cell? p = some (.slice ao n c)) :
  Calls Tryz.prog 141 #[.pointer (some p),.int .i64 2] w fun e w' =>
   e = .panicked [{ v:=.iface 52 (.int .i64 11),recovered:=false }] ∧ w' = w:=number_short p ao n c 2 w hk (by decide) hn hc hp
theorem By.kept {w:World} {ao:Option Addr} {c:Nat} {xs:List UInt8} (h:By w ao c xs) {p:Addr} (hne:∀ ad,ao = some ad → 0 < xs.length → ad.block ≠ p.block) (v:Value):By (w.setCell p v) ao c xs:=by
 refine ⟨h.le,h.cap,h.nil,fun ad had j u hu=>?_⟩
 have hj:j < xs.length:=by
  have:=(List.getElem?_eq_some_iff.1 hu).1
  rw [xdx] at this
  exact this
 rw [World.cell?_setCell_other]
 ·exact h.at' ad had j u hu
 ·intro e
  have:=hne ad had (by omega)
  apply this
  rw [e]
  unfold Addr.add
  split <;> rfl
theorem xgv {ao:Option Addr} {c k:Nat} {ad:Addr} (h:xay ao c k = some ad):∃ ad',ao = some ad' ∧ ad'.block = ad.block:=by
 unfold xay at h
 split at h
 ·exact ⟨ad,h,rfl⟩
 ·obtain ⟨a,ha,rfl⟩:=Option.map_eq_some_iff.1 h
  refine ⟨a,ha,?_⟩
  unfold Addr.add
  split <;> rfl
set_option maxHeartbeats 800000 in
theorem rtext_ok (p:Addr) (ao:Option Addr) (n c:Nat) (xs:List UInt8) (most:Int) (w:World) (h:By w ao c xs) (hn:n = xs.length) (hk:2 ≤ n) (hm:(lenN xs:Int) ≤ most) (hl:lenN xs + 2 ≤ n)
  (hp:w.cell? p = some (.slice ao n c)) (hz:w.frozen? p = false) (hne:∀ ad,ao = some ad → 0 < xs.length → ad.block ≠ p.block) :
  Calls Tryz.prog 169 #[.pointer (some p),.int .i64 most] w fun e w' =>
   e = .returned (.string ⟨((xs.drop 2).take (lenN xs)).toArray⟩) ∧ w' = (w.setCell p (.slice (xay ao c 2) (n - 2) (c - 2))).setCell p (.slice (xay (xay ao c 2) (c - 2) (lenN xs)) (n - 2 - lenN xs) (c - 2 - lenN xs)):=by
 subst hn
 have hlt:=lenN_lt xs
 have hle:=h.le
 have hcap:=h.cap
 have hp2:(w.setCell p (.slice (xay ao c 2) (xs.length - 2) (c - 2))).cell? p = some (.slice (xay ao c 2) (xs.length - 2) (c - 2)):=World.cell?_setCell_same _ _ _ hp
 have hz2:(w.setCell p (.slice (xay ao c 2) (xs.length - 2) (c - 2))).frozen? p = false:=(World.frozen?_setCell _ _ _ _).trans hz
 have hB2:=(h.rest (k:=2) (by omega)).first (lenN xs)
 have hne2:∀ ad,xay ao c 2 = some ad → 0 < ((xs.drop 2).take (lenN xs)).length → ad.block ≠ p.block:=by
  intro ad had hpos
  obtain ⟨a',ha',hb⟩:=xgv had
  rw [← hb]
  exact hne a' ha' (by omega)
 have hB3:=(hB2.kept hne2 (.slice (xay ao c 2) (xs.length - 2) (c - 2))).kept hne2 (.slice (xay (xay ao c 2) (c - 2) (lenN xs)) (xs.length - 2 - lenN xs) (c - 2 - lenN xs))
 have hs:=str_of1 hB3 (n:=lenN xs) (by rw [List.length_take,List.length_drop];omega)
 go_enter Tryz.func169,Tryz.ntmps169
 go_wp2_with fail
 refine (number2_ok p ao xs.length c xs w h rfl hk hp hz hne).mono ?_
 rintro e w' ⟨rfl,rfl⟩
 go_wp2_with fail
 refine (take_ok p (xay ao c 2) (xs.length - 2) (c - 2) (lenN xs) _ (by omega) (by omega) (by omega) hp2 hz2).mono ?_
 rintro e w' ⟨rfl,rfl⟩
 go_wp2
 go_ret
 exact ⟨rfl,rfl⟩
def xbt (xs:List UInt8) (most:Int):Int:=if xs.length < 2 then 11 else if most < (lenN xs:Int) then 13 else if xs.length < lenN xs + 2 then 11 else 0
set_option maxHeartbeats 800000 in
theorem rtext_err (p:Addr) (ao:Option Addr) (n c:Nat) (xs:List UInt8) (most:Int) (w:World) (h:By w ao c xs) (hn:n = xs.length) (he:xbt xs most ≠ 0)
  (hp:w.cell? p = some (.slice ao n c)) (hz:w.frozen? p = false) (hne:∀ ad,ao = some ad → 0 < xs.length → ad.block ≠ p.block) :
  Calls Tryz.prog 169 #[.pointer (some p),.int .i64 most] w fun e w' =>
   e = .panicked [{ v:=.iface 52 (.int .i64 (xbt xs most)),recovered:=false }] ∧ (w' = w ∨ ∃ V,w' = w.setCell p V):=by
 subst hn
 have hlt:=lenN_lt xs
 have hle:=h.le
 have hcap:=h.cap
 unfold xbt at he ⊢
 by_cases h2:xs.length < 2
 ·rw [if_pos h2] at he ⊢
  go_enter Tryz.func169,Tryz.ntmps169
  go_wp2_with (go_at_call 141;refine (number2_short p ao xs.length c w h2 hle hcap hp).mono ?_;rintro e w' ⟨rfl,rfl⟩)
  exact ⟨rfl,rfl,Or.inl rfl⟩
 ·rw [if_neg h2] at he ⊢
  by_cases hm:most < (lenN xs:Int)
  ·rw [if_pos hm] at he ⊢
   go_enter Tryz.func169,Tryz.ntmps169
   go_wp2_with (go_at_call 141;refine (number2_ok p ao xs.length c xs w h rfl (by omega) hp hz hne).mono ?_;rintro e w' ⟨rfl,rfl⟩)
   exact ⟨rfl,rfl,Or.inr ⟨_,rfl⟩⟩
  ·rw [if_neg hm] at he ⊢
   by_cases hl:xs.length < lenN xs + 2
   ·rw [if_pos hl] at he ⊢
    have hp2:(w.setCell p (.slice (xay ao c 2) (xs.length - 2) (c - 2))).cell? p = some (.slice (xay ao c 2) (xs.length - 2) (c - 2)):=World.cell?_setCell_same _ _ _ hp
    go_enter Tryz.func169,Tryz.ntmps169
    go_wp2_with fail
    refine (number2_ok p ao xs.length c xs w h rfl (by omega) hp hz hne).mono ?_
    rintro e w' ⟨rfl,rfl⟩
    go_wp2_with fail
    refine (take_short p (xay ao c 2) (xs.length - 2) (c - 2) (lenN xs) _ (by omega) (by omega) (by omega) (by omega) hp2).mono ?_
    rintro e w' ⟨rfl,rfl⟩
    go_wp2
    exact ⟨rfl,rfl,Or.inr ⟨_,rfl⟩⟩
   ·rw [if_neg hl] at he
    exact absurd rfl he
end Go.Proofs.YtecilienolabfaaGreatDoor
/- GetText: The contracts of bits.GetText over this seat's program. -/
namespace Go.Proofs.YtecilienolabfaaGreatDoor
set_option maxRecDepth 100000
open Go.RowKit
set_option linter.unusedVariables false
def txtOf (xs:List UInt8):ByteArray:=⟨((xs.drop 2).take (lenN xs)).toArray⟩
theorem gettext1_ok (r b q:Addr) (ao:Option Addr) (n c:Nat) (xs:List UInt8) (most:Int) (z:ByteArray) (w:World) (h:By w ao c xs) (hn:n = xs.length) (hk:2 ≤ n) (hm:(lenN xs:Int) ≤ most) (hl:lenN xs + 2 ≤ n)
  (hr:w.cell? r = some (.slice ao n c)) (hb:w.cell? b = some (.int .i64 most)) (hq:w.cell? q = some (.string z)) (zr:w.frozen? r = false) (zq:w.frozen? q = false)
  (hne:∀ ad,ao = some ad → 0 < xs.length → ad.block ≠ r.block) (hrq:r.block ≠ q.block) :
  Calls Tryz.prog 168 #[.pointer (some r),.pointer (some b),.pointer (some q)] w fun e w' =>
   e = .returned (.tuple #[]) ∧ w' = ((w.setCell r (.slice (xay ao c 2) (n - 2) (c - 2))).setCell r (.slice (xay (xay ao c 2) (c - 2) (lenN xs)) (n - 2 - lenN xs) (c - 2 - lenN xs))).setCell q (.string (txtOf xs)):=by
 subst hn
 have hrq':r ≠ q:=fun e=>hrq (by rw [e])
 have hq':((w.setCell r (.slice (xay ao c 2) (xs.length - 2) (c - 2))).setCell r (.slice (xay (xay ao c 2) (c - 2) (lenN xs)) (xs.length - 2 - lenN xs) (c - 2 - lenN xs))).cell? q = some (.string z):=by
  rw [World.cell?_setCell_other _ _ _ _ hrq',World.cell?_setCell_other _ _ _ _ hrq']
  exact hq
 go_enter Tryz.func168,Tryz.ntmps168
 go_wp2_with (go_at_call 169;refine (rtext_ok r ao xs.length c xs most _ h rfl hk hm hl hr zr hne).mono ?_;rintro e w' ⟨rfl,rfl⟩)
 go_end0
 exact ⟨rfl,rfl⟩
theorem gettext1_err (r b q:Addr) (ao:Option Addr) (n c:Nat) (xs:List UInt8) (most:Int) (w:World) (h:By w ao c xs) (hn:n = xs.length) (he:xbt xs most ≠ 0)
  (hr:w.cell? r = some (.slice ao n c)) (hb:w.cell? b = some (.int .i64 most)) (zr:w.frozen? r = false) (hne:∀ ad,ao = some ad → 0 < xs.length → ad.block ≠ r.block) :
  Calls Tryz.prog 168 #[.pointer (some r),.pointer (some b),.pointer (some q)] w fun e w' =>
   e = .panicked [{ v:=.iface 52 (.int .i64 (xbt xs most)),recovered:=false }] ∧ (w' = w ∨ ∃ V,w' = w.setCell r V):=by
 subst hn
 generalize hx:xbt xs most = x at *
 go_enter Tryz.func168,Tryz.ntmps168
 go_wp2_with fail
 have H:=rtext_err r ao xs.length c xs most w h rfl (by rw [hx];exact he) hr zr hne
 rw [hx] at H
 refine H.mono ?_
 rintro e w' ⟨rfl,hw⟩
 clear H
 go_wp2
 exact ⟨rfl,rfl,hw⟩
theorem caught_text_ok (a b q:Value) (w w1:World)
  (hF:Calls Tryz.prog 168 #[a,b,q] (w.alloc (.cells #[.int .i64 0] 52)) fun e w'=>e = .returned (.tuple #[]) ∧ w' = w1)
  (hc:w1.cell? ⟨w.heap.size,0,none⟩ = some (.int .i64 0)) (hz:w1.frozen? ⟨w.heap.size,0,none⟩ = false) :
  Calls Tryz.prog 139 #[.func (.func 168) #[] #[a,b,q]] w fun e w'=>e = .returned (.int .i64 0) ∧ w' = w1.setCell ⟨w.heap.size,0,none⟩ (.int .i64 0):=by
 have hmf:∀ (fn:Fn) (first cap:Array Value) (w:World),(Instr.makeFunc fn first cap).run Tryz.prog w = .ok (.func fn first cap) w:=fun _ _ _ _=>rfl
 have H:Hid (Calls Tryz.prog 168 #[a,b,q] (w.alloc (.cells #[.int .i64 0] 52)) fun e w'=>e = .returned (.tuple #[]) ∧ w' = w1):=hF
 clear hF
 go_enter_defers Tryz.func139,Tryz.ntmps139
 go_wp2_with fail
 refine H.out.mono ?_
 rintro e w' ⟨rfl,rfl⟩
 go_wp2
 refine leaves_cons (f:=142) (args:=#[.pointer (some ⟨w.heap.size,0,none⟩)]) (by simp) (by simp [go_sem]) ?_
 refine (catch_idle ⟨w.heap.size,0,none⟩ _).mono ?_
 rintro e u' w'' ⟨rfl,rfl,rfl⟩
 have hc2:(w'.setCell ⟨w.heap.size,0,none⟩ (.int .i64 0)).cell? ⟨w.heap.size,0,none⟩ = some (.int .i64 0):=by
  rw [World.cell?_setCell_same _ _ _ hc]
 simp [Leaves,settle,results,Tryz.results139,go_sem,hc2]
theorem caught_text_err (a b q:Value) (x:Int) (w:World) (R:World → Prop)
  (hF:Calls Tryz.prog 168 #[a,b,q] (w.alloc (.cells #[.int .i64 0] 52)) fun e w'=>e = .panicked [{ v:=.iface 52 (.int .i64 x),recovered:=false }] ∧ R w')
  (hR:∀ w1,R w1 → w1.cell? ⟨w.heap.size,0,none⟩ = some (.int .i64 0) ∧ w1.frozen? ⟨w.heap.size,0,none⟩ = false) :
  Calls Tryz.prog 139 #[.func (.func 168) #[] #[a,b,q]] w fun e w'=>e = .returned (.int .i64 x) ∧ ∃ w1,R w1 ∧ w' = w1.setCell ⟨w.heap.size,0,none⟩ (.int .i64 x):=by
 have hmf:∀ (fn:Fn) (first cap:Array Value) (w:World),(Instr.makeFunc fn first cap).run Tryz.prog w = .ok (.func fn first cap) w:=fun _ _ _ _=>rfl
 have H:Hid (Calls Tryz.prog 168 #[a,b,q] (w.alloc (.cells #[.int .i64 0] 52)) fun e w'=>e = .panicked [{ v:=.iface 52 (.int .i64 x),recovered:=false }] ∧ R w'):=hF
 have HR:Hid (∀ w1,R w1 → w1.cell? ⟨w.heap.size,0,none⟩ = some (.int .i64 0) ∧ w1.frozen? ⟨w.heap.size,0,none⟩ = false):=hR
 clear hF hR
 go_enter_defers Tryz.func139,Tryz.ntmps139
 go_wp2_with fail
 refine H.out.mono ?_
 rintro e w' ⟨rfl,hw⟩
 obtain ⟨hc,hz⟩:=HR.out w' hw
 have HW:Hid (R w'):=hw
 clear hw
 go_wp2
 refine leaves_cons (f:=142) (args:=#[.pointer (some ⟨w.heap.size,0,none⟩)]) (by simp) (by simp [go_sem]) ?_
 refine (catch_panicking ⟨w.heap.size,0,none⟩ x 0 [] _ hc hz).mono ?_
 rintro e u' w'' ⟨rfl,rfl,rfl⟩
 have hc2:(w'.setCell ⟨w.heap.size,0,none⟩ (.int .i64 x)).cell? ⟨w.heap.size,0,none⟩ = some (.int .i64 x):=by
  rw [World.cell?_setCell_same _ _ _ hc]
 simp [Leaves,settle,results,Tryz.results139,go_sem,hc2]
 exact ⟨w',HW.out,rfl⟩
def gotT (w:World) (ao:Option Addr) (n c:Nat) (most:Int):World :=
 ((w.alloc (.cells #[.int .i64 most] 3)).alloc (.cells #[.slice ao n c] 201)).alloc (.cells #[.string ⟨#[]⟩] 9)
theorem gotT_size (w:World) (ao:Option Addr) (n c:Nat) (k:Int):(gotT w ao n c k).heap.size = w.heap.size + 3:=by simp [gotT]
theorem gotT_below (w:World) (ao:Option Addr) (n c:Nat) (k:Int):Below w.heap.size w (gotT w ao n c k):=by
 unfold gotT
 exact (((Below.refl _ _).alloc (Nat.le_refl _) _).alloc (by simp) _).alloc (by simp;omega) _
theorem caught_gett_ok (w:World) (ao:Option Addr) (c:Nat) (xs:List UInt8) (most:Int) (h:By w ao c xs) (hk:2 ≤ xs.length) (hm:(lenN xs:Int) ≤ most) (hl:lenN xs + 2 ≤ xs.length) :
  Calls Tryz.prog 139 #[.func (.func 168) #[] #[.pointer (some ⟨w.heap.size + 1,0,none⟩),.pointer (some ⟨w.heap.size,0,none⟩),.pointer (some ⟨w.heap.size + 1 + 1,0,none⟩)]] (gotT w ao xs.length c most) fun e w' =>
   e = .returned (.int .i64 0) ∧ w'.cell? ⟨w.heap.size + 1,0,none⟩ = some (.slice (xay (xay ao c 2) (c - 2) (lenN xs)) (xs.length - 2 - lenN xs) (c - 2 - lenN xs)) ∧
    w'.cell? ⟨w.heap.size + 1 + 1,0,none⟩ = some (.string (txtOf xs)) ∧ Below w.heap.size w w' ∧ w.heap.size + 3 < w'.heap.size:=by
 have hb:=gotT_below w ao xs.length c most
 have hs:=gotT_size w ao xs.length c most
 have cr:(gotT w ao xs.length c most).cell? ⟨w.heap.size + 1,0,none⟩ = some (.slice ao xs.length c):=by simp [gotT,go_sem]
 have cb:(gotT w ao xs.length c most).cell? ⟨w.heap.size,0,none⟩ = some (.int .i64 most):=by simp [gotT,go_sem]
 have cq:(gotT w ao xs.length c most).cell? ⟨w.heap.size + 1 + 1,0,none⟩ = some (.string ⟨#[]⟩):=by simp [gotT,go_sem]
 have zr:(gotT w ao xs.length c most).frozen? ⟨w.heap.size + 1,0,none⟩ = false:=by simp [gotT,go_sem]
 have zq:(gotT w ao xs.length c most).frozen? ⟨w.heap.size + 1 + 1,0,none⟩ = false:=by simp [gotT,go_sem]
 have hW:=h.later hb
 have hne:∀ ad,ao = some ad → 0 < xs.length → ad.block ≠ w.heap.size + 1:=by
  intro ad had hl
  have:=World.block_lt_of_cell? w _ (h.at' ad had 0 _ (Bs_at hl))
  simp [Addr.add] at this
  omega
 generalize gotT w ao xs.length c most = W at *
 have bE:Below w.heap.size w (W.alloc (.cells #[.int .i64 0] 52)):=hb.alloc (by omega) _
 have bE':Below W.heap.size W (W.alloc (.cells #[.int .i64 0] 52)):=(Below.refl _ _).alloc (Nat.le_refl _) _
 have cr':=(World.cell?_alloc_past (w:=W) (.cells #[.int .i64 0] 52) (w.heap.size + 1) 0 (by omega)).trans cr
 have cb':=(World.cell?_alloc_past (w:=W) (.cells #[.int .i64 0] 52) w.heap.size 0 (by omega)).trans cb
 have cq':=(World.cell?_alloc_past (w:=W) (.cells #[.int .i64 0] 52) (w.heap.size + 1 + 1) 0 (by omega)).trans cq
 have zr':=(World.frozen?_alloc_past (w:=W) (.cells #[.int .i64 0] 52) (w.heap.size + 1) 0 (by omega)).trans zr
 have zq':=(World.frozen?_alloc_past (w:=W) (.cells #[.int .i64 0] 52) (w.heap.size + 1 + 1) 0 (by omega)).trans zq
 have ce:(W.alloc (.cells #[.int .i64 0] 52)).cell? ⟨W.heap.size,0,none⟩ = some (.int .i64 0):=by simp [go_sem]
 have ze:(W.alloc (.cells #[.int .i64 0] 52)).frozen? ⟨W.heap.size,0,none⟩ = false:=by simp [go_sem]
 have hF:=gettext1_ok ⟨w.heap.size + 1,0,none⟩ ⟨w.heap.size,0,none⟩ ⟨w.heap.size + 1 + 1,0,none⟩ ao xs.length c xs most ⟨#[]⟩ (W.alloc (.cells #[.int .i64 0] 52)) (hW.later bE') rfl hk hm hl cr' cb' cq' zr' zq' hne (by simp)
 generalize hV0:Value.slice (xay ao c 2) (xs.length - 2) (c - 2) = V0 at *
 generalize hV1:Value.slice (xay (xay ao c 2) (c - 2) (lenN xs)) (xs.length - 2 - lenN xs) (c - 2 - lenN xs) = V1 at *
 generalize hV2:Value.string (txtOf xs) = V2 at *
 have ne1:(⟨w.heap.size + 1,0,none⟩:Addr) ≠ ⟨w.heap.size + 1 + 1,0,none⟩:=by simp
 have ne2:(⟨W.heap.size,0,none⟩:Addr) ≠ ⟨w.heap.size + 1 + 1,0,none⟩:=by simp [hs]
 have ne3:(⟨W.heap.size,0,none⟩:Addr) ≠ ⟨w.heap.size + 1,0,none⟩:=by simp [hs]
 refine (caught_text_ok _ _ _ W _ hF ?_ ?_).mono ?_
 ·rw [World.cell?_setCell_other _ _ _ _ ne2.symm,World.cell?_setCell_other _ _ _ _ ne3.symm,World.cell?_setCell_other _ _ _ _ ne3.symm]
  exact ce
 ·rw [World.frozen?_setCell,World.frozen?_setCell,World.frozen?_setCell]
  exact ze
 ·rintro e w' ⟨rfl,rfl⟩
  refine ⟨rfl,?_,?_,?_,?_⟩
  ·rw [World.cell?_setCell_other _ _ _ _ ne3,World.cell?_setCell_other _ _ _ _ ne1.symm,World.cell?_setCell_same _ _ _ (World.cell?_setCell_same _ _ _ cr')]
  ·rw [World.cell?_setCell_other _ _ _ _ ne2,World.cell?_setCell_same _ _ _ ((World.cell?_setCell_other _ _ _ _ ne1).trans ((World.cell?_setCell_other _ _ _ _ ne1).trans cq'))]
  ·exact (((bE.setCell (by simp) _).setCell (by simp) _).setCell (by simp;omega) _).setCell (by simp;omega) _
  ·simp [World.setCell];omega
theorem caught_gett_err (w:World) (ao:Option Addr) (c:Nat) (xs:List UInt8) (most:Int) (h:By w ao c xs) (he:xbt xs most ≠ 0) :
  Calls Tryz.prog 139 #[.func (.func 168) #[] #[.pointer (some ⟨w.heap.size + 1,0,none⟩),.pointer (some ⟨w.heap.size,0,none⟩),.pointer (some ⟨w.heap.size + 1 + 1,0,none⟩)]] (gotT w ao xs.length c most) fun e w' =>
   e = .returned (.int .i64 (xbt xs most)) ∧ Below w.heap.size w w':=by
 have hb:=gotT_below w ao xs.length c most
 have hs:=gotT_size w ao xs.length c most
 have cr:(gotT w ao xs.length c most).cell? ⟨w.heap.size + 1,0,none⟩ = some (.slice ao xs.length c):=by simp [gotT,go_sem]
 have cb:(gotT w ao xs.length c most).cell? ⟨w.heap.size,0,none⟩ = some (.int .i64 most):=by simp [gotT,go_sem]
 have zr:(gotT w ao xs.length c most).frozen? ⟨w.heap.size + 1,0,none⟩ = false:=by simp [gotT,go_sem]
 have hW:=h.later hb
 have hne:∀ ad,ao = some ad → 0 < xs.length → ad.block ≠ w.heap.size + 1:=by
  intro ad had hl
  have:=World.block_lt_of_cell? w _ (h.at' ad had 0 _ (Bs_at hl))
  simp [Addr.add] at this
  omega
 generalize gotT w ao xs.length c most = W at *
 have bE:Below w.heap.size w (W.alloc (.cells #[.int .i64 0] 52)):=hb.alloc (by omega) _
 have bE':Below W.heap.size W (W.alloc (.cells #[.int .i64 0] 52)):=(Below.refl _ _).alloc (Nat.le_refl _) _
 have cr':=(World.cell?_alloc_past (w:=W) (.cells #[.int .i64 0] 52) (w.heap.size + 1) 0 (by omega)).trans cr
 have cb':=(World.cell?_alloc_past (w:=W) (.cells #[.int .i64 0] 52) w.heap.size 0 (by omega)).trans cb
 have zr':=(World.frozen?_alloc_past (w:=W) (.cells #[.int .i64 0] 52) (w.heap.size + 1) 0 (by omega)).trans zr
 have ce:(W.alloc (.cells #[.int .i64 0] 52)).cell? ⟨W.heap.size,0,none⟩ = some (.int .i64 0):=by simp [go_sem]
 have ze:(W.alloc (.cells #[.int .i64 0] 52)).frozen? ⟨W.heap.size,0,none⟩ = false:=by simp [go_sem]
 have ne3:(⟨W.heap.size,0,none⟩:Addr) ≠ ⟨w.heap.size + 1,0,none⟩:=by simp [hs]
 have hF:=gettext1_err ⟨w.heap.size + 1,0,none⟩ ⟨w.heap.size,0,none⟩ ⟨w.heap.size + 1 + 1,0,none⟩ ao xs.length c xs most (W.alloc (.cells #[.int .i64 0] 52)) (hW.later bE') rfl he cr' cb' zr' hne
 refine (caught_text_err _ _ _ _ W _ hF ?_).mono ?_
 ·rintro w1 (rfl | ⟨V,rfl⟩)
  ·exact ⟨ce,ze⟩
  ·exact ⟨(World.cell?_setCell_other _ _ _ _ ne3.symm).trans ce,(World.frozen?_setCell _ _ _ _).trans ze⟩
 ·rintro e w' ⟨rfl,w1,hw1,rfl⟩
  refine ⟨rfl,?_⟩
  rcases hw1 with rfl | ⟨V,rfl⟩
  ·exact bE.setCell (by simp;omega) _
  ·exact (bE.setCell (by simp) _).setCell (by simp;omega) _
set_option maxHeartbeats 800000 in
theorem gettext_ok (ao:Option Addr) (n c:Nat) (xs:List UInt8) (most:Int) (w:World) (h:By w ao c xs) (hn:n = xs.length) (hl:n ≤ 1099511627776) (he:xbt xs most = 0) :
  Calls Tryz.prog 167 #[.slice ao n c,.int .i64 most] w fun e w' =>
   ∃ g c',e = .returned (.tuple #[.string (txtOf xs),.slice (some ⟨g,0,none⟩) (n - 2 - lenN xs) c',.int .i64 0]) ∧ By w' (some ⟨g,0,none⟩) c' ((xs.drop 2).drop (lenN xs)) ∧ Below w.heap.size w w':=by
 have hmf:∀ (fn:Fn) (first cap:Array Value) (w:World),(Instr.makeFunc fn first cap).run Tryz.prog w = .ok (.func fn first cap) w:=fun _ _ _ _=>rfl
 subst hn
 obtain ⟨hk,hm,hL⟩:2 ≤ xs.length ∧ (lenN xs:Int) ≤ most ∧ lenN xs + 2 ≤ xs.length:=by
  unfold xbt at he
  split at he
  ·cases he
  ·split at he
   ·cases he
   ·split at he
    ·cases he
    ·refine ⟨by omega,by omega,by omega⟩
 clear he
 go_enter Tryz.func167,Tryz.ntmps167
 go_wp2_with fail
 refine (caught_gett_ok w ao c xs most h hk hm hL).mono ?_
 rintro e w1 ⟨rfl,cr,cq,hb,hs⟩
 have hR:=((h.later hb).rest (k:=2) (by omega)).rest (k:=lenN xs) (by rw [List.length_drop];omega)
 have hLL:Hid (xs.length - 2 - lenN xs = ((xs.drop 2).drop (lenN xs)).length):=by show _ = _;rw [List.length_drop,List.length_drop]
 generalize xay (xay ao c 2) (c - 2) (lenN xs) = A at *
 go_wp2_with fail
 go_region_with (go_at_call 109;refine (xha _ _ _ _ 0 _ (hR.later ?_) hLL.out (by omega) (by decide) (by decide)).mono ?_;exact (Below.refl _ _).drew;rintro e w2 ⟨rfl,hown,hb2⟩;have cq2:=(hb2.cell (p:=⟨w.heap.size + 1 + 1,0,none⟩) (by simp;omega)).trans cq)
 all_goals
  have hb3:Below w.heap.size w w2:=hb.trans ((of_drew hb2).mono (by show w.heap.size ≤ w1.heap.size;omega))
  have R:=By.own hown (by simp;omega)
  clear hown hb2 cq2
  go_wp2
  go_ret3
  exact ⟨_,_,rfl,R,hb3⟩
set_option maxHeartbeats 800000 in
theorem gettext_err (ao:Option Addr) (n c:Nat) (xs:List UInt8) (most:Int) (w:World) (h:By w ao c xs) (hn:n = xs.length) (hl:n ≤ 1099511627776) (he:xbt xs most ≠ 0) :
  Calls Tryz.prog 167 #[.slice ao n c,.int .i64 most] w fun e w' =>
   ∃ g c',e = .returned (.tuple #[.string ⟨#[]⟩,.slice (some ⟨g,0,none⟩) n c',.int .i64 (xbt xs most)]) ∧ By w' (some ⟨g,0,none⟩) c' xs ∧ Below w.heap.size w w':=by
 have hmf:∀ (fn:Fn) (first cap:Array Value) (w:World),(Instr.makeFunc fn first cap).run Tryz.prog w = .ok (.func fn first cap) w:=fun _ _ _ _=>rfl
 subst hn
 have hc:=caught_gett_err w ao c xs most h he
 have hne:(xbt xs most != 0) = true:=by rw [bne_iff_ne];exact he
 clear he
 generalize xbt xs most = x at *
 have HC:Hid (Calls Tryz.prog 139 #[.func (.func 168) #[] #[.pointer (some ⟨w.heap.size + 1,0,none⟩),.pointer (some ⟨w.heap.size,0,none⟩),.pointer (some ⟨w.heap.size + 1 + 1,0,none⟩)]] (gotT w ao xs.length c most) fun e w'=>e = .returned (.int .i64 x) ∧ Below w.heap.size w w'):=hc
 clear hc
 go_enter Tryz.func167,Tryz.ntmps167
 go_wp2_with fail
 refine HC.out.mono ?_
 rintro e w1 ⟨rfl,hb⟩
 clear HC
 go_wp2_with fail
 refine (xha ao xs.length c xs 0 w1 (h.later hb) rfl hl (by decide) (by decide)).mono ?_
 rintro e w2 ⟨rfl,hown,hb2⟩
 have hb3:Below w.heap.size w w2:=hb.trans (hb2.mono hb.size)
 have R:=By.own hown (by simp;omega)
 clear hown hb2
 go_wp2
 go_ret3
 exact ⟨_,_,rfl,R,hb3⟩
end Go.Proofs.YtecilienolabfaaGreatDoor
