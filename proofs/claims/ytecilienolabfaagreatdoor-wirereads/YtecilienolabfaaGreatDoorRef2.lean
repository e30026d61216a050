/- Contracts of the document's own answers (package paddockref1: Get, Text, GetText) over this seat's program. -/
import Derived.Test.YtecilienolabfaaGreatDoorRef
import Derived.Test.YtecilienolabfaaGreatDoorPackBits
import Derived.RegionTactic
namespace Go.Proofs.YtecilienolabfaaGreatDoor
set_option maxRecDepth 100000
open Go.RowKit
set_option linter.unusedVariables false
theorem slice_from (ao:Option Addr) (n c m:Nat) (z:Int) (hz:z = m) (hm:m ≤ n) (hn:n ≤ c) :
  ∀ W,(Instr.slice 51 (.slice ao n c) (some (.int .i64 z)) none none).run Tryz.prog W = .ok (.slice (xay ao c m) (n - m) (c - m)) W:=by
 intro W
 subst hz
 rw [run_slice_l W 51 _ n c Tryz.underlying51 .i64 (m:Int) (by omega) (by omega)]
 obtain ⟨i0,hi,hz0,hz1,hz2⟩:=info_parts Tryz.infoByte
 have hel:Tryz.prog.elem 51 = 5:=by kernel_rfl
 simp [hel,sizeOf,typeInfo,hi,hz1,sliced,xay]
theorem heldI_cases {q:Int} {m:Nat} (hq:heldI q = m):(q ≤ 0 ∧ m = 0) ∨ (8 < q ∧ m = 8) ∨ (0 < m ∧ q = m):=by
 unfold heldI at hq
 split at hq
 ·exact Or.inl ⟨by omega,by omega⟩
 ·split at hq
  ·exact Or.inr (Or.inl ⟨by assumption,by omega⟩)
  ·by_cases h0:m = 0
   ·exact Or.inl ⟨by omega,h0⟩
   ·exact Or.inr (Or.inr ⟨by omega,hq⟩)
set_option maxHeartbeats 1600000 in
theorem refget_ok (ao:Option Addr) (n c:Nat) (xs:List UInt8) (q:Int) (m:Nat) (w:World) (h:By w ao c xs) (hn:n = xs.length) (hq:heldI q = m) (hk:m ≤ n) :
  Calls Tryz.prog 92 #[.slice ao n c,.int .i64 q] w fun e w' =>
   e = .returned (.tuple #[.int .u64 (getN (xs.take m):Int),.slice (xay ao c m) (n - m) (c - m),.bool true]) ∧ Below w.heap.size w w':=by
 have hle:=h.le
 have hcap:=h.cap
 rw [← hn] at hle
 have hN:n ≤ xs.length:=by omega
 have hm8:m ≤ 8:=by have:=heldI_bd q;omega
 have hcase:=heldI_cases hq
 clear hn hq
 rcases hcase with ⟨h1,rfl⟩ | ⟨h1,rfl⟩ | ⟨h1,rfl⟩
 ·skip
  have hsl:=slice_from ao n c (0:Nat) (0) rfl hk hle
  go_enter Tryz.func92,Tryz.ntmps92
  go_wp2
  go_loop [8,9] (fun s i=>∃ j:Nat,j ≤ (0:Nat) ∧ i = .int .i64 j ∧ s = .int .u64 (getN (xs.take j):Int)) (fun _ i=>(0:Nat) - (intOf i).toNat)
  case atStart=>exact ⟨0,Nat.zero_le _,rfl,rfl⟩
  case round =>
   obtain ⟨j,hj,rfl,rfl⟩:=hrel
   by_cases hlt:j < (0:Nat)
   ·omega
   ·have hjm:j = (0:Nat):=by omega
    subst hjm
    go_wp2
    go_region
    all_goals
     go_wp2
     go_ret3
     exact ⟨rfl,(Below.refl _ _).drew⟩
 ·skip
  have hsl:=slice_from ao n c (8:Nat) (8) rfl hk hle
  go_enter Tryz.func92,Tryz.ntmps92
  go_wp2
  go_loop [8,9] (fun s i=>∃ j:Nat,j ≤ (8:Nat) ∧ i = .int .i64 j ∧ s = .int .u64 (getN (xs.take j):Int)) (fun _ i=>(8:Nat) - (intOf i).toNat)
  case atStart=>exact ⟨0,Nat.zero_le _,rfl,rfl⟩
  case round =>
   obtain ⟨j,hj,rfl,rfl⟩:=hrel
   by_cases hlt:j < (8:Nat)
   ·cases ao with
    | none=>have:=h.nil rfl;omega
    | some ad =>
     have hc:=h.cell j (by omega)
     have hs:=getN_lt (xs.take j)
     have hx:xs[j].toNat < 256:=xs[j].toNat_lt
     have HS:Hid _:=get_take xs j (by omega)
     clear hsl
     go_wp2
     go_round
     case rel=>exact ⟨j + 1,by omega,by go_num,by rw [HS.out]⟩
     case measure=>simp [intOf];omega
   ·have hjm:j = (8:Nat):=by omega
    subst hjm
    go_wp2
    go_region
    all_goals
     go_wp2
     go_ret3
     exact ⟨rfl,(Below.refl _ _).drew⟩
 ·skip
  have hsl:=slice_from ao n c m ((m:Int)) rfl hk hle
  go_enter Tryz.func92,Tryz.ntmps92
  go_wp2
  go_loop [8,9] (fun s i=>∃ j:Nat,j ≤ m ∧ i = .int .i64 j ∧ s = .int .u64 (getN (xs.take j):Int)) (fun _ i=>m - (intOf i).toNat)
  case atStart=>exact ⟨0,Nat.zero_le _,rfl,rfl⟩
  case round =>
   obtain ⟨j,hj,rfl,rfl⟩:=hrel
   by_cases hlt:j < m
   ·cases ao with
    | none=>have:=h.nil rfl;omega
    | some ad =>
     have hc:=h.cell j (by omega)
     have hs:=getN_lt (xs.take j)
     have hx:xs[j].toNat < 256:=xs[j].toNat_lt
     have HS:Hid _:=get_take xs j (by omega)
     clear hsl
     go_wp2
     go_round
     case rel=>exact ⟨j + 1,by omega,by go_num,by rw [HS.out]⟩
     case measure=>simp [intOf];omega
   ·have hjm:j = m:=by omega
    subst hjm
    go_wp2
    go_region
    all_goals
     go_wp2
     go_ret3
     exact ⟨rfl,(Below.refl _ _).drew⟩
set_option maxHeartbeats 800000 in
theorem refget_short (ao:Option Addr) (n c:Nat) (q:Int) (m:Nat) (w:World) (hn:n ≤ 9223372036854775807) (hq:heldI q = m) (hk:n < m) :
  Calls Tryz.prog 92 #[.slice ao n c,.int .i64 q] w fun e w' =>
   e = .returned (.tuple #[.int .u64 0,.slice ao n c,.bool false]) ∧ w' = w:=by
 have hcase:=heldI_cases hq
 have hm8:m ≤ 8:=by have:=heldI_bd q;omega
 clear hq
 rcases hcase with ⟨h1,rfl⟩ | ⟨h1,rfl⟩ | ⟨h1,rfl⟩
 ·omega
 ·go_enter Tryz.func92,Tryz.ntmps92
  go_wp2
  go_ret3
  exact ⟨rfl,rfl⟩
 ·go_enter Tryz.func92,Tryz.ntmps92
  go_wp2
  go_ret3
  exact ⟨rfl,rfl⟩
end Go.Proofs.YtecilienolabfaaGreatDoor
