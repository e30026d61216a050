/- The contracts of paddockref1.GetText over this seat's program. -/
import Derived.Test.YtecilienolabfaaGreatDoorRef2
import Derived.Test.YtecilienolabfaaGreatDoorPackBits
import Derived.Deep.DrawnRows
import Derived.Deep.RegionHeld3
namespace Go.Proofs.YtecilienolabfaaGreatDoor
set_option maxRecDepth 100000
open Go.RowKit
set_option linter.unusedVariables false
theorem by_drew2 {w:World} {ao:Option Addr} {c:Nat} {xs:List UInt8} (h:By w ao c xs):By w.drew ao c xs:=⟨h.le,h.cap,h.nil,h.at'⟩
theorem slice_from64 (ao:Option Addr) (n c m:Nat) (hm:m ≤ n) (hn:n ≤ c) :
  ∀ W,(Instr.slice 51 (.slice ao n c) (some (.int .u64 (m:Int))) none none).run Tryz.prog W = .ok (.slice (xay ao c m) (n - m) (c - m)) W:=by
 intro W
 rw [run_slice_l W 51 _ n c Tryz.underlying51 .u64 (m:Int) (by omega) (by omega)]
 obtain ⟨i0,hi,hz0,hz1,hz2⟩:=info_parts Tryz.infoByte
 have hel:Tryz.prog.elem 51 = 5:=by kernel_rfl
 simp [hel,sizeOf,typeInfo,hi,hz1,sliced,xay]
theorem refget2_ok (ao:Option Addr) (n c:Nat) (xs:List UInt8) (w:World) (h:By w ao c xs) (hn:n = xs.length) (hk:2 ≤ n) :
  Calls Tryz.prog 92 #[.slice ao n c,.int .i64 2] w fun e w' =>
   e = .returned (.tuple #[.int .u64 (lenN xs:Int),.slice (xay ao c 2) (n - 2) (c - 2),.bool true]) ∧ Below w.heap.size w w' :=
 refget_ok ao n c xs 2 2 w h hn (by decide) hk
theorem refget2_short (ao:Option Addr) (n c:Nat) (w:World) (hk:n < 2) :
  Calls Tryz.prog 92 #[.slice ao n c,.int .i64 2] w fun e w' =>
   e = .returned (.tuple #[.int .u64 0,.slice ao n c,.bool false]) ∧ w' = w :=
 refget_short ao n c 2 2 w (by omega) (by decide) hk
set_option maxHeartbeats 1600000 in
theorem refgettext_err (ao:Option Addr) (n c:Nat) (xs:List UInt8) (most:Int) (w:World) (h:By w ao c xs) (hn:n = xs.length) (hl:n ≤ 1099511627776) (hm0:-9223372036854775808 ≤ most) (hm1:most ≤ 9223372036854775807) (he:xbt xs most ≠ 0) :
  Calls Tryz.prog 123 #[.slice ao n c,.int .i64 most] w fun e w' =>
   e = .returned (.tuple #[.string ⟨#[]⟩,.slice ao n c,.int .i64 (xbt xs most)]) ∧ Below w.heap.size w w':=by
 subst hn
 have hlt:=lenN_lt xs
 unfold xbt at he ⊢
 by_cases h2:xs.length < 2
 ·rw [if_pos h2]
  go_enter Tryz.func123,Tryz.ntmps123
  go_wp2_with (go_at_call 92;refine (refget2_short ao xs.length c w h2).mono ?_;rintro e w' ⟨rfl,rfl⟩)
  go_ret3
  exact ⟨rfl,Below.refl _ _⟩
 ·rw [if_neg h2] at he ⊢
  by_cases hmn:most < 0
  ·rw [if_pos (by omega)]
   go_enter Tryz.func123,Tryz.ntmps123
   go_wp2_with (go_at_call 92;refine (refget2_ok ao xs.length c xs w h rfl (by omega)).mono ?_;rintro e w1 ⟨rfl,hb1⟩)
   go_ret3
   exact ⟨rfl,hb1⟩
  ·by_cases hm:most < (lenN xs:Int)
   ·rw [if_pos hm]
    go_enter Tryz.func123,Tryz.ntmps123
    go_wp2_with (go_at_call 92;refine (refget2_ok ao xs.length c xs w h rfl (by omega)).mono ?_;rintro e w1 ⟨rfl,hb1⟩)
    go_ret3
    exact ⟨rfl,hb1⟩
   ·rw [if_neg hm] at he ⊢
    by_cases hL:xs.length < lenN xs + 2
    ·rw [if_pos hL]
     have hLI:((xs.length - 2:Nat):Int) < (lenN xs:Int):=by omega
     go_enter Tryz.func123,Tryz.ntmps123
     go_wp2_with (go_at_call 92;refine (refget2_ok ao xs.length c xs w h rfl (by omega)).mono ?_;rintro e w1 ⟨rfl,hb1⟩)
     go_ret3
     exact ⟨rfl,hb1⟩
    ·rw [if_neg hL] at he
     exact absurd rfl he
attribute [local go_sem ↓] Go.wp_at_zero Go.wp_at_succ
set_option maxHeartbeats 1600000 in
theorem refgettext_at (ao:Option Addr) (n c:Nat) (xs:List UInt8) (most:Int) (w:World) (h:By w ao c xs) (hn:n = xs.length) (hl:n ≤ 1099511627776) (hm1:most ≤ 9223372036854775807) (he:xbt xs most = 0) :
  Calls Tryz.prog 123 #[.slice ao n c,.int .i64 most] w fun e w' =>
   ∃ A c',e = .returned (.tuple #[.string (txtOf xs),.slice A (n - 2 - lenN xs) c',.int .i64 0]) ∧ By w' A c' ((xs.drop 2).drop (lenN xs)) ∧ Below w.heap.size w w' ∧ ∀ d,A = some d → ∃ d',ao = some d' ∧ d'.block = d.block:=by
 subst hn
 have hlt:=lenN_lt xs
 have hle:=h.le
 obtain ⟨hk,hm,hL⟩:2 ≤ xs.length ∧ (lenN xs:Int) ≤ most ∧ lenN xs + 2 ≤ xs.length:=by
  unfold xbt at he
  split at he
  ·cases he
  ·split at he
   ·cases he
   ·split at he
    ·cases he
    ·refine ⟨by omega,by omega,by omega⟩
 clear he
 have hLI:¬ ((xs.length - 2:Nat):Int) < (lenN xs:Int):=by omega
 have hmn:¬ most < 0:=by omega
 have hsl:=slice_from64 (xay ao c 2) (xs.length - 2) (c - 2) (lenN xs) (by omega) (by omega)
 go_enter Tryz.func123,Tryz.ntmps123
 go_wp2_with (go_at_call 92;refine (refget2_ok ao xs.length c xs w h rfl (by omega)).mono ?_;rintro e w1 ⟨rfl,hb1⟩)
 have hB1:=((h.later hb1).rest (k:=2) (by omega)).first (lenN xs)
 have hB2:=((h.later hb1).rest (k:=2) (by omega)).rest (k:=lenN xs) (by rw [List.length_drop];omega)
 have hb2:=hb1.drew
 have hc0:(0:Int) ≤ (lenN xs:Int):=by omega
 have hc1:(lenN xs:Int) ≤ ((c - 2:Nat):Int):=by omega
 go_region_held3 (fun W=>(convert 51 9 (.slice (xay ao c 2) (lenN xs) (c - 2))).run Tryz.prog W = .ok (.string (txtOf xs)) W)
  (exact str_of1 (by_drew2 hB1) (by rw [List.length_take,List.length_drop];omega)) (fail)
 all_goals
  go_wp2
  go_ret3
  refine ⟨_,_,rfl,by_drew2 hB2,hb2,fun d hd=>?_⟩
  obtain ⟨d1,e1,e2⟩:=xgv hd
  obtain ⟨d2,e3,e4⟩:=xgv e1
  exact ⟨d2,e3,e4.trans e2⟩
end Go.Proofs.YtecilienolabfaaGreatDoor
