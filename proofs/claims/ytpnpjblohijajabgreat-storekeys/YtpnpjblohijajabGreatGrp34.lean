/- JnlReplLong, joined. -/
import Derived.Test.YtpnpjblohijajabGreatGrp32
namespace Go.Proofs.YtpnpjblohijajabGreat
section
set_option linter.unusedSimpArgs false
set_option linter.unusedVariables false
set_option maxRecDepth 100000
open Go.RowKit Go.MapKept

theorem first_long (l : List (List UInt8)) (h : ∃ r ∈ l, 20000 < r.length) : ∃ i, ∃ hi : i < l.length, 20000 < l[i].length ∧ ∀ k (hk : k < l.length), k < i → l[k].length ≤ 20000 := by
  induction l with
  | nil => obtain ⟨r, hr, _⟩ := h; cases hr
  | cons s l ih =>
    by_cases hs : 20000 < s.length
    · exact ⟨0, by simp, hs, fun k _ hk => absurd hk (Nat.not_lt_zero k)⟩
    · obtain ⟨r, hr, hrl⟩ := h
      have h2 : ∃ r ∈ l, 20000 < r.length := by
        rcases List.mem_cons.1 hr with rfl | hm
        · exact absurd hrl hs
        · exact ⟨r, hm, hrl⟩
      obtain ⟨i, hi, hl, hp⟩ := ih h2
      refine ⟨i + 1, by simp; omega, hl, fun k hk hki => ?_⟩
      cases k with
      | zero => show s.length ≤ 20000; omega
      | succ k => exact hp k (by simpa using hk) (by omega)
set_option maxHeartbeats 2000000 in
theorem replace1_long (so : Option Addr) (sc : Nat) (l : List (List UInt8)) (bs bj : Nat) (w : World) (hs : Has w bs 22 #[.slice so l.length sc]) (hS : Strs w so sc l) (hl : ∃ r ∈ l, 20000 < r.length) :
    Calls Tryz.prog 73 #[.pointer (some ⟨bs, 0, none⟩), .pointer (some ⟨bj, 0, none⟩)] w fun e w' => e = thrownJ 10 ∧ Below w.heap.size w w' := by
  obtain ⟨i, hi, hlong, hfirst⟩ := first_long l hl
  have c0 : w.cell? ⟨bs, 0, none⟩ = some (.slice so l.length sc) := hs.cell 0
  have hle := hS.le
  have hcap := hS.cap
  obtain ⟨L, hL⟩ : ∃ L, l.length = L := ⟨_, rfl⟩
  rw [hL] at c0 hle
  have hiL : i < L := by omega
  replace hL : Hid _ := hL
  replace hfirst : Hid _ := hfirst
  replace hlong : Hid _ := hlong
  clear hs hl
  go_enter Tryz.func73, Tryz.ntmps73
  go_wp2
  go_loopw [6] (fun iv wr => ∃ k, k ≤ i ∧ iv = .int .i64 (k : Nat) ∧ wr = w) (fun iv _ => i - (intOf iv).toNat)
  case atStart => exact ⟨0, Nat.zero_le _, rfl, rfl⟩
  case round =>
    obtain ⟨k, hk, rfl, rfl⟩ := hrel
    have hkL : (k : Int) < (L : Int) := by omega
    have hkl : k < l.length := by rw [hL.out]; omega
    cases so with
    | none => have := hS.nil rfl; omega
    | some ad =>
      have hc := hS.cell ad rfl k hkl
      have hr := isRecord_any l[k] wr
      by_cases hki : k < i
      · rw [show decide (l[k].length ≤ 20000) = true from decide_eq_true (hfirst.out k hkl hki)] at hr
        obtain ⟨s, hss⟩ : ∃ s, l[k] = s := ⟨_, rfl⟩
        rw [hss] at hc hr
        unfold strV at hc hr
        replace hr : Hid _ := hr
        clear hss hkl
        go_wp2_with fail
        refine Calls.mono hr.out ?_
        rintro e w0 ⟨rfl, h9⟩
        have h9' := h9.symm
        clear h9 hr
        subst h9'
        go_wp2_with (first
          | (go_at_call 33; refine (must_yes 10 _).mono ?_; rintro e w9 ⟨rfl, h9⟩; have h9' := h9.symm; clear h9; subst h9')
          | fail)
        go_roundw
        case rel => exact ⟨k + 1, by omega, by go_num, trivial⟩
        case measure => simp [intOf]; omega
      · have hki' : k = i := by omega
        subst hki'
        rw [show decide (l[k].length ≤ 20000) = false from decide_eq_false (by have := hlong.out; omega)] at hr
        obtain ⟨s, hss⟩ : ∃ s, l[k] = s := ⟨_, rfl⟩
        rw [hss] at hc hr
        unfold strV at hc hr
        replace hr : Hid _ := hr
        clear hss hlong hfirst
        go_wp2_with fail
        refine Calls.mono hr.out ?_
        rintro e w0 ⟨rfl, h9⟩
        have h9' := h9.symm
        clear h9 hr
        subst h9'
        go_wp2_with (first
          | (go_at_call 33; refine (must_no 10 _).mono ?_; rintro e w9 ⟨rfl, h9⟩; have h9' := h9.symm; clear h9; subst h9'; unfold thrownJ)
          | fail)
        exact ⟨rfl, rfl, Below.refl _ _⟩
theorem replace_long (j p m c : Nat) (h : HdV) (lo : Option Addr) (so : Option Addr) (sc : Nat) (l : List (List UInt8)) (w : World) (hJ : Has w j 75 (jnlC p h lo m c false)) (hS : Strs w so sc l) (hl : ∃ r ∈ l, 20000 < r.length) :
    Calls Tryz.prog 42 #[.pointer (some ⟨j, 0, none⟩), .slice so l.length sc] w fun e w' => e = .returned (.int .i64 10) ∧ Has w' j 75 (jnlC p h lo m c false) ∧ But j w w' :=
  replace_err 10 false (by decide) j p m c h lo so l.length sc w hJ fun bs bj w' hs _ hb => replace1_long so sc l bs bj w' hs (hS.later hb) hl
end
end Go.Proofs.YtpnpjblohijajabGreat
