/- Read, joined. -/
import Derived.Test.YtpnpjblohijajabGreatGrp12
import Derived.Defers
import Derived.Recover
import Derived.Laws.Pointers
namespace Go.Proofs.YtpnpjblohijajabGreat
section
set_option maxRecDepth 100000
open Go.RowKit
set_option linter.unusedVariables false

/-- What is left behind the first k bytes. -/
def restAddr (ao : Option Addr) (c k : Nat) : Option Addr := if c = k then ao else ao.map (·.add k)

theorem take_ok (p : Addr) (ao : Option Addr) (n c k : Nat) (w : World) (hk : k ≤ n) (hn : n ≤ c) (hc : c ≤ 9223372036854775807)
    (hp : w.cell? p = some (.slice ao n c)) (hz : w.frozen? p = false) :
    Calls Tryz.prog 138 #[.pointer (some p), .int .i64 k] w fun e w' =>
      e = .returned (.slice ao k c) ∧ w' = w.setCell p (.slice (restAddr ao c k) (n - k) (c - k)) := by
  by_cases h : c = k
  · subst h
    go_enter Tryz.func138, Tryz.ntmps138
    go_wp2
    go_ret
    refine ⟨rfl, ?_⟩
    have e1 : restAddr ao c c = ao := by simp [restAddr]
    have e2 : n - c = 0 := by omega
    rw [e1, e2, Nat.sub_self]
  · have e : restAddr ao c k = ao.map (·.add k) := by simp [restAddr, h]
    rw [e]; clear e
    go_enter Tryz.func138, Tryz.ntmps138
    go_wp2
    go_ret
    exact ⟨rfl, rfl⟩

theorem take_short (p : Addr) (ao : Option Addr) (n c k : Nat) (w : World) (hk : n < k) (hk' : k ≤ 1000000) (hn : n ≤ c) (hc : c ≤ 9223372036854775807)
    (hp : w.cell? p = some (.slice ao n c)) :
    Calls Tryz.prog 138 #[.pointer (some p), .int .i64 k] w fun e w' =>
      e = .panicked [{ v := .iface 25 (.int .i64 11), recovered := false }] ∧ w' = w := by
  go_enter Tryz.func138, Tryz.ntmps138
  go_wp2
  exact ⟨rfl, rfl, rfl⟩

theorem catch_idle (p : Addr) (w : World) :
    CallsD Tryz.prog 136 #[.pointer (some p)] .returning w fun e u' w' => e = .returned (.tuple #[]) ∧ u' = .returning ∧ w' = w := by
  refine callsD_of_wpS Tryz.func136 rfl fun c₀ cs hu => ?_
  apply wpS_seq
  apply wpS_region
  simp [wpOpsS, go_sem, recoverD, hu, Tryz.ntmps136, Exit.thenS]
  apply wpS_seq
  apply wpS_region
  simp [wpOpsS, go_sem, Exit.thenS, Array.replicate]
  refine wpS_cond (t := false) (by simp [Act.eval]) ?_
  simp only [Bool.false_eq_true, if_false]
  refine wpS_of_wp (wp_skip ?_)
  cases c₀
  simp_all [bodyPostS, results, Tryz.results136]

theorem catch_panicking (p : Addr) (x y : Int) (older : List PanicEntry) (w : World) (hc : w.cell? p = some (.int .i64 y)) (hz : w.frozen? p = false) :
    CallsD Tryz.prog 136 #[.pointer (some p)] (.panicking ({ v := .iface 25 (.int .i64 x), recovered := false } :: older)) w fun e u' w' =>
      e = .returned (.tuple #[]) ∧ u' = .panicking ({ v := .iface 25 (.int .i64 x), recovered := true } :: older) ∧ w' = w.setCell p (.int .i64 x) := by
  refine callsD_of_wpS Tryz.func136 rfl fun c₀ cs hu => ?_
  apply wpS_seq
  apply wpS_region
  simp [wpOpsS, go_sem, recoverD, hu, Tryz.ntmps136, Exit.thenS]
  apply wpS_seq
  apply wpS_region
  simp [wpOpsS, go_sem, Exit.thenS, Array.replicate]
  refine wpS_cond (t := true) (by simp [Act.eval]) ?_
  simp only [if_true]
  apply wpS_region
  have hta : ∀ (x : Int) (w : World), (Instr.typeAssert (.iface 25 (.int .i64 x)) 20 25 false).run Tryz.prog w = .ok (.int .i64 x) w := fun _ _ => by kernel_rfl
  simp [wpOpsS, go_sem, hc, hz, hta, bodyPostS, results, Tryz.results136]

/-- Its cells behind the first k bytes. -/
theorem By.rest {w : World} {ao : Option Addr} {c k : Nat} {xs : List UInt8} (h : By w ao c xs) (hk : k ≤ xs.length) : By w (restAddr ao c k) (c - k) (xs.drop k) := by
  refine ⟨by have := h.le; rw [List.length_drop]; omega, by have := h.cap; omega, fun hz => ?_, fun ad had j u hu => ?_⟩
  · unfold restAddr at hz
    split at hz
    · omega
    · have := h.nil (by simpa using hz); omega
  · have hj : k + j < xs.length := by
      have := (List.getElem?_eq_some_iff.1 hu).1
      rw [Bs_length, List.length_drop] at this
      omega
    have hc : ¬ c = k := by have := h.le; omega
    simp only [restAddr, if_neg hc, Option.map_eq_some_iff] at had
    obtain ⟨a, ha, rfl⟩ := had
    have e : (a.add k).add j = a.add (k + j) := by
      unfold Addr.add
      by_cases hk0 : k = 0 <;> by_cases hj0 : j = 0 <;> simp [hk0, hj0, Nat.add_assoc]
    rw [e]
    refine h.at' a ha (k + j) u ?_
    rw [← hu]
    simp [Bs]

theorem By.first {w : World} {ao : Option Addr} {c : Nat} {xs : List UInt8} (h : By w ao c xs) (k : Nat) : By w ao c (xs.take k) := by
  refine ⟨by have := h.le; rw [List.length_take]; omega, h.cap, h.nil, fun ad had j u hu => h.at' ad had j u ?_⟩
  simp only [Bs, List.map_take] at hu ⊢
  rw [List.getElem?_take] at hu
  split at hu
  · exact hu
  · cases hu

theorem number_ok (p : Addr) (ao : Option Addr) (n c k : Nat) (xs : List UInt8) (w : World) (h : By w ao c xs) (hn : n = xs.length) (hk : k ≤ n)
    (hp : w.cell? p = some (.slice ao n c)) (hz : w.frozen? p = false) (hne : ∀ ad, ao = some ad → 0 < xs.length → ad.block ≠ p.block) :
    Calls Tryz.prog 137 #[.pointer (some p), .int .i64 k] w fun e w' =>
      e = .returned (.int .u64 (getN (xs.take k) : Int)) ∧ w' = w.setCell p (.slice (restAddr ao c k) (n - k) (c - k)) := by
  subst hn
  have hle := h.le
  have hcap := h.cap
  go_enter Tryz.func137, Tryz.ntmps137
  go_wp2_with (go_at_call 138; refine (take_ok p ao xs.length c k _ hk hle hcap hp hz).mono ?_; rintro e w' ⟨rfl, rfl⟩)
  generalize hw1 : w.setCell p (.slice (restAddr ao c k) (xs.length - k) (c - k)) = w1 at *
  go_loop [5, 12] (fun s i => ∃ m : Nat, m ≤ k ∧ i = .int .i64 m ∧ s = .int .u64 (getN (xs.take m) : Int)) (fun _ i => k - (intOf i).toNat)
  case atStart => exact ⟨0, Nat.zero_le _, rfl, rfl⟩
  case round =>
    obtain ⟨m, hm, rfl, rfl⟩ := hrel
    by_cases hlt : m < k
    · cases ao with
      | none => have := h.nil rfl; omega
      | some ad =>
        have hc : w1.cell? (ad.add m) = some (.int .u8 (xs[m].toNat : Int)) := by
          rw [← hw1, World.cell?_setCell_other]
          · exact h.cell m (by omega)
          · intro hpa
            have := hne ad rfl (by omega)
            rw [hpa] at this
            apply this
            unfold Addr.add
            split <;> rfl
        have hs := getN_lt (xs.take m)
        have hx : xs[m].toNat < 256 := xs[m].toNat_lt
        have HS : Hid _ := get_take xs m (by omega)
        clear hw1
        go_wp2
        go_round
        case rel => exact ⟨m + 1, by omega, by go_num, by rw [HS.out]⟩
        case measure => simp [intOf]; omega
    · have hmk : m = k := by omega
      subst hmk
      go_wp2
      go_ret
      exact ⟨rfl, rfl⟩

theorem number_short (p : Addr) (ao : Option Addr) (n c k : Nat) (w : World) (hk : n < k) (hk' : k ≤ 1000000) (hn : n ≤ c) (hc : c ≤ 9223372036854775807)
    (hp : w.cell? p = some (.slice ao n c)) :
    Calls Tryz.prog 137 #[.pointer (some p), .int .i64 k] w fun e w' =>
      e = .panicked [{ v := .iface 25 (.int .i64 11), recovered := false }] ∧ w' = w := by
  go_enter Tryz.func137, Tryz.ntmps137
  go_wp2_with (go_at_call 138; refine (take_short p ao n c k _ hk hk' hn hc hp).mono ?_; rintro e w' ⟨rfl, rfl⟩)
  exact ⟨rfl, rfl, rfl⟩

theorem get1_ok (r b q : Addr) (ao : Option Addr) (n c : Nat) (xs : List UInt8) (k z : Int) (w : World) (h : By w ao c xs) (hn : n = xs.length) (hk : heldI k ≤ n)
    (hr : w.cell? r = some (.slice ao n c)) (hb : w.cell? b = some (.int .i64 k)) (hq : w.cell? q = some (.int .u64 z)) (zr : w.frozen? r = false) (zq : w.frozen? q = false)
    (hne : ∀ ad, ao = some ad → 0 < xs.length → ad.block ≠ r.block) (hrq : r.block ≠ q.block) :
    Calls Tryz.prog 139 #[.pointer (some r), .pointer (some b), .pointer (some q)] w fun e w' =>
      e = .returned (.tuple #[]) ∧ w' = (w.setCell r (.slice (restAddr ao c (heldI k).toNat) (n - (heldI k).toNat) (c - (heldI k).toNat))).setCell q (.int .u64 (getN (xs.take (heldI k).toNat) : Int)) := by
  obtain ⟨hk0, hk8⟩ := heldI_bd k
  obtain ⟨m, hm⟩ := Int.eq_ofNat_of_zero_le hk0
  rw [hm, Int.toNat_natCast]
  have hmn : m ≤ n := by omega
  clear hk hk0 hk8
  subst hn
  have hq' : (w.setCell r (.slice (restAddr ao c m) (xs.length - m) (c - m))).cell? q = some (.int .u64 z) := by
    rw [World.cell?_setCell_other]
    · exact hq
    · intro e; exact hrq (by rw [e])
  go_enter Tryz.func139, Tryz.ntmps139
  go_wp2_with (first | (go_at_call 97; refine (held_any _ _).mono ?_; rintro e w' ⟨rfl, rfl⟩) | (go_at_call 137; refine (number_ok r ao xs.length c m xs _ h rfl hmn hr zr hne).mono ?_; rintro e w' ⟨rfl, rfl⟩))
  go_end0
  exact ⟨rfl, rfl⟩

theorem get1_short (r b q : Addr) (ao : Option Addr) (n c : Nat) (k : Int) (w : World) (hn : n ≤ c) (hc : c ≤ 9223372036854775807) (hk : n < heldI k)
    (hr : w.cell? r = some (.slice ao n c)) (hb : w.cell? b = some (.int .i64 k)) :
    Calls Tryz.prog 139 #[.pointer (some r), .pointer (some b), .pointer (some q)] w fun e w' =>
      e = .panicked [{ v := .iface 25 (.int .i64 11), recovered := false }] ∧ w' = w := by
  obtain ⟨hk0, hk8⟩ := heldI_bd k
  obtain ⟨m, hm⟩ := Int.eq_ofNat_of_zero_le hk0
  have hmn : n < m := by omega
  have hm8 : m ≤ 8 := by omega
  clear hk hk0 hk8
  go_enter Tryz.func139, Tryz.ntmps139
  go_wp2_with (first | (go_at_call 97; refine (held_any _ _).mono ?_; rintro e w' ⟨rfl, rfl⟩) | (go_at_call 137; refine (number_short r ao n c m _ hmn (by omega) hn hc hr).mono ?_; rintro e w' ⟨rfl, rfl⟩))
  exact ⟨rfl, rfl, rfl⟩

/-- bits.caught over Get's closure, where that returns. -/
theorem caught_get_ok (a b q : Value) (w w1 : World)
    (hF : Calls Tryz.prog 139 #[a, b, q] (w.alloc (.cells #[.int .i64 0] 25)) fun e w' => e = .returned (.tuple #[]) ∧ w' = w1)
    (hc : w1.cell? ⟨w.heap.size, 0, none⟩ = some (.int .i64 0)) (hz : w1.frozen? ⟨w.heap.size, 0, none⟩ = false) :
    Calls Tryz.prog 111 #[.func (.func 139) #[] #[a, b, q]] w fun e w' => e = .returned (.int .i64 0) ∧ w' = w1.setCell ⟨w.heap.size, 0, none⟩ (.int .i64 0) := by
  have hmf : ∀ (fn : Fn) (first cap : Array Value) (w : World), (Instr.makeFunc fn first cap).run Tryz.prog w = .ok (.func fn first cap) w := fun _ _ _ _ => rfl
  have H : Hid (Calls Tryz.prog 139 #[a, b, q] (w.alloc (.cells #[.int .i64 0] 25)) fun e w' => e = .returned (.tuple #[]) ∧ w' = w1) := hF
  clear hF
  go_enter_defers Tryz.func111, Tryz.ntmps111
  go_wp2_with fail
  refine H.out.mono ?_
  rintro e w' ⟨rfl, rfl⟩
  go_wp2
  refine leaves_cons (f := 136) (args := #[.pointer (some ⟨w.heap.size, 0, none⟩)]) (by simp) (by simp [go_sem]) ?_
  refine (catch_idle ⟨w.heap.size, 0, none⟩ _).mono ?_
  rintro e u' w'' ⟨rfl, rfl, rfl⟩
  have hc2 : (w'.setCell ⟨w.heap.size, 0, none⟩ (.int .i64 0)).cell? ⟨w.heap.size, 0, none⟩ = some (.int .i64 0) := by
    rw [World.cell?_setCell_same _ _ _ hc]
  simp [Leaves, settle, results, Tryz.results111, go_sem, hc2]

/-- bits.caught over Get's closure, where that panics with an error. -/
theorem caught_get_err (a b q : Value) (x : Int) (w w1 : World)
    (hF : Calls Tryz.prog 139 #[a, b, q] (w.alloc (.cells #[.int .i64 0] 25)) fun e w' => e = .panicked [{ v := .iface 25 (.int .i64 x), recovered := false }] ∧ w' = w1)
    (hc : w1.cell? ⟨w.heap.size, 0, none⟩ = some (.int .i64 0)) (hz : w1.frozen? ⟨w.heap.size, 0, none⟩ = false) :
    Calls Tryz.prog 111 #[.func (.func 139) #[] #[a, b, q]] w fun e w' => e = .returned (.int .i64 x) ∧ w' = w1.setCell ⟨w.heap.size, 0, none⟩ (.int .i64 x) := by
  have hmf : ∀ (fn : Fn) (first cap : Array Value) (w : World), (Instr.makeFunc fn first cap).run Tryz.prog w = .ok (.func fn first cap) w := fun _ _ _ _ => rfl
  have H : Hid (Calls Tryz.prog 139 #[a, b, q] (w.alloc (.cells #[.int .i64 0] 25)) fun e w' => e = .panicked [{ v := .iface 25 (.int .i64 x), recovered := false }] ∧ w' = w1) := hF
  clear hF
  go_enter_defers Tryz.func111, Tryz.ntmps111
  go_wp2_with fail
  refine H.out.mono ?_
  rintro e w' ⟨rfl, rfl⟩
  go_wp2
  refine leaves_cons (f := 136) (args := #[.pointer (some ⟨w.heap.size, 0, none⟩)]) (by simp) (by simp [go_sem]) ?_
  refine (catch_panicking ⟨w.heap.size, 0, none⟩ x 0 [] _ hc hz).mono ?_
  rintro e u' w'' ⟨rfl, rfl, rfl⟩
  have hc2 : (w'.setCell ⟨w.heap.size, 0, none⟩ (.int .i64 x)).cell? ⟨w.heap.size, 0, none⟩ = some (.int .i64 x) := by
    rw [World.cell?_setCell_same _ _ _ hc]
  simp [Leaves, settle, results, Tryz.results111, go_sem, hc2]
end
end Go.Proofs.YtpnpjblohijajabGreat
