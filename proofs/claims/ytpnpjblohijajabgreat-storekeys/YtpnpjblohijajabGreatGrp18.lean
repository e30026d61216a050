/- JnlChunk, LayMath, joined. -/
import Derived.Test.YtpnpjblohijajabGreatGrp11
import Derived.Test.YtpnpjblohijajabGreatGrp17
import Derived.Shelf.Abstract
import Derived.WalkKit
import Derived.OwnWalkIn
import Derived.TacticsInMore
import Derived.LoopNIn
import Derived.LoopIn
import Derived.Test.YtpnpjblohijajabGreatGrp7
namespace Go.Proofs.YtpnpjblohijajabGreat
section
set_option linter.unusedSimpArgs false
set_option linter.unusedVariables false
set_option maxRecDepth 100000
open Go.RowKit Go.MapKept

attribute [local go_sem] Oper.semAt_some

/-- The k-th piece of a row of so many bytes. -/
def pieceV (g N k : Nat) : Array Value := #[.slice (some ⟨g, 64 * k, none⟩) (min 64 (N - 64 * k)) (min 64 (N - 64 * k))]
set_option maxHeartbeats 4000000 in
theorem chunk1_seq (n g N c b1 b2 : Nat) (so : Option Addr) (hso : N ≠ 0 → so = some ⟨g, 0, none⟩) (hN : N ≤ c) (hc : N ≤ 1000000000) (hcc : c ≤ 9223372036854775807) (Base : World → Prop)
    (hB : ∀ W, Base W → W.cell? ⟨b1, 0, none⟩ = some (.slice so N c) ∧ W.cell? ⟨b2, 0, none⟩ = some (.int .i64 64)) :
    SeqP Fence.wide n Tryz.prog 119 #[.pointer (some ⟨b1, 0, none⟩), .pointer (some ⟨b2, 0, none⟩)] (pieceV g N) (List.range ((N + 63) / 64)) Base := by
  intro l J Jp W hbase hdrew hround h0
  refine callsIn_of_wp Tryz.func119 rfl trivial ?_ rfl
  simp only [Tryz.ntmps119, List.size_toArray, List.length_cons, List.length_nil, Nat.reduceAdd, Nat.reduceSub, Array.replicate_succ, Array.replicate_zero, List.push_toArray, List.append_toArray, List.nil_append, List.cons_append]
  rw [List.length_range]
  replace hround : Hid _ := hround
  gi_wp2
  gi_loopw [4] (fun iv wr => ∃ k i, k ≤ (N + 63) / 64 ∧ Hid (i = 64 * k) ∧ iv = .int .i64 (i : Nat) ∧ J k wr) (fun iv _ => N + 64 - (intOf iv).toNat)
  case atStart => exact ⟨0, 0, Nat.zero_le _, rfl, rfl, h0⟩
  case round =>
    obtain ⟨k, i, hk, hi, rfl, hJ⟩ := hrel
    obtain ⟨c1, c2⟩ := hB wr (hbase k wr hJ)
    by_cases hlt : i < N
    · obtain rfl := hso (by omega)
      have hltI : (i : Int) < (N : Int) := by omega
      have hkm : k < (List.range ((N + 63) / 64)).length := by rw [List.length_range]; have := hi.out; omega
      have hJ2 := hdrew k wr hJ
      obtain ⟨c3, c4⟩ := hB wr.drew (hbase k _ hJ2)
      have hr := hround.out k wr.drew hkm hJ2
      have hi64 := hi.out
      have hnum : (List.range ((N + 63) / 64))[k] = k := List.getElem_range _
      rw [hnum] at hr
      unfold pieceV at hr
      rw [← hi64] at hr
      have hB' := hB
      clear hi64 hnum hB hround
      obtain ⟨e, he⟩ : ∃ e, min 64 (N - i) = e := ⟨_, rfl⟩
      rw [he] at hr
      have he2 : e ≤ 64 ∧ i + e ≤ N ∧ 1 ≤ e := by omega
      have heI : min (64 : Int) ((N : Int) - (i : Int)) = (e : Int) := by omega
      obtain ⟨fn, tmps, assign, body, hy, hR⟩ := hr
      replace hR : Hid _ := hR
      clear he
      gi_wp2
      refine wpIn_wide.2 ?_
      refine wp_region_plan (fun W => W = wr.drew) (Plan.of [(0, true), (1, true), (2, true), (3, true), (4, false), (5, false), (6, true)] .done) (by kernel_rfl) (by kernel_rfl) (by kernel_rfl) (by kernel_rfl) rfl ?_
      iterate 3
        first
          | (refine plan_pass _ rfl (by rfl) ?_)
          | (refine plan_take _ _ rfl (.inl ⟨by rfl, fun W hS => by obtain rfl := hS; go_simp; try with_reducible rfl⟩) ?_)
        try simp only [Act.put, List.setIfInBounds_toArray, List.set_cons_zero, List.set_cons_succ]
      have hiN : i ≤ N := by omega
      have hci : ¬ c = i := by omega
      refine plan_take _ (.slice (some ⟨g, i, none⟩) (N - i) (c - i)) rfl (.inl ⟨by rfl, fun W hS => by clear hS; go_simp⟩) ?_
      clear hci
      try simp only [Act.put, List.setIfInBounds_toArray, List.set_cons_zero, List.set_cons_succ]
      refine plan_run _ rfl (fun K' hK' => ?_)
      go_simp
      have hsub : ((N - i : Nat) : Int) = (N : Int) - (i : Int) := by omega
      refine hK'.out _ _ rfl ?_
      clear hK' K'
      refine plan_run _ rfl (fun K' hK' => ?_)
      go_simp
      refine hK'.out _ _ rfl ?_
      clear hK' K'
      iterate 1
        first
          | (refine plan_pass _ rfl (by rfl) ?_)
          | (refine plan_take _ _ rfl (.inl ⟨by rfl, fun W hS => by clear hS; go_simp; try with_reducible rfl⟩) ?_)
        try simp only [Act.put, List.setIfInBounds_toArray, List.set_cons_zero, List.set_cons_succ]
      refine plan_done ?_
      have hw1 : IntKind.i64.wrap ((i : Int) + (e : Int)) = (i : Int) + (e : Int) := by rw [IntKind.wrap_i64]; omega
      gi_wp2
      refine ⟨fun h => by (cases h), RoundIn.mono hR.out ?_⟩
      rintro en W3 hp
      cases en with
      | returned v =>
        obtain ⟨rfl, hJ3⟩ := hp
        obtain ⟨c5, c6⟩ := hB' W3 (hbase _ _ hJ3)
        gi_wp2
        go_roundw
        case rel => exact ⟨k + 1, i + 64, by have := hi.out; omega, by have := hi.out; show _ = _; omega, by go_num, hJ3⟩
        case measure => simp [intOf]; omega
      | panicked ch => exact ⟨rfl, hp⟩
      | outgrown => exact hp.elim
    · have hltI : ¬ (i : Int) < (N : Int) := by omega
      have hkm : k = (N + 63) / 64 := by have := hi.out; omega
      gi_wp2
      go_end0
      rw [← hkm]
      exact hJ
theorem chunk_any (ao : Option Addr) (N c : Nat) (w : World) :
    Calls Tryz.prog 91 #[.slice ao N c, .int .i64 64] w fun e w' => e = .returned (.func (.func 119) #[] #[.pointer (some ⟨w.heap.size, 0, none⟩), .pointer (some ⟨w.heap.size + 1, 0, none⟩)]) ∧ Has w' w.heap.size 60 #[.slice ao N c] ∧ Has w' (w.heap.size + 1) 3 #[.int .i64 64] ∧ w'.heap.size = w.heap.size + 2 ∧ Below w.heap.size w w' := by
  obtain ⟨w1, hw1, hA, hB, hb⟩ := two_vars w 60 3 #[.slice ao N c] #[.int .i64 64]
  have c0 := hA.cell 0
  have c1 := hB.cell 0
  have s1 : w1.heap.size = w.heap.size + 2 := by rw [← hw1]; simp
  have hmf : ∀ (fn : Fn) (first cap : Array Value) (w : World), (Instr.makeFunc fn first cap).run Tryz.prog w = .ok (.func fn first cap) w := fun _ _ _ _ => rfl
  replace hA : Hid _ := hA
  replace hB : Hid _ := hB
  replace s1 : Hid _ := s1
  go_enter Tryz.func91, Tryz.ntmps91
  go_wp2
  go_ret
  exact ⟨rfl, hA.out, hB.out, s1.out, hb⟩
end

section
set_option linter.unusedSimpArgs false
set_option linter.unusedVariables false
open Go.RowKit

def chunkB (B : List UInt8) (k : Nat) : List UInt8 := (B.drop (64 * k)).take 64
theorem chunkB_len (B : List UInt8) (k : Nat) : (chunkB B k).length = min 64 (B.length - 64 * k) := by
  unfold chunkB
  rw [List.length_take, List.length_drop]
def chunkN (B : List UInt8) : Nat := (B.length + 63) / 64
/-- What is pending when k pieces of B have been written from sector i0 on. -/
def layP (D B : List UInt8) (i0 k : Nat) : PendL := (List.range k).map fun t => (i0 + t, overB (sec D (i0 + t)) 0 (chunkB B t))
theorem layP_zero (D B : List UInt8) (i0 : Nat) : layP D B i0 0 = [] := rfl
theorem layP_succ (D B : List UInt8) (i0 k : Nat) : layP D B i0 (k + 1) = layP D B i0 k ++ [(i0 + k, overB (sec D (i0 + k)) 0 (chunkB B k))] := by
  unfold layP
  rw [List.range_succ, List.map_append]
  rfl
theorem mem_layP {D B : List UInt8} {i0 k i : Nat} {s : List UInt8} : (i, s) ∈ layP D B i0 k ↔ ∃ t, t < k ∧ i = i0 + t ∧ s = overB (sec D (i0 + t)) 0 (chunkB B t) := by
  unfold layP
  rw [List.mem_map]
  constructor
  · rintro ⟨t, ht, e⟩
    rw [List.mem_range] at ht
    injection e with e1 e2
    exact ⟨t, ht, e1.symm, e2.symm⟩
  · rintro ⟨t, ht, rfl, rfl⟩
    exact ⟨t, List.mem_range.2 ht, rfl⟩
theorem layP_find (D B : List UInt8) (i0 k : Nat) : findP (layP D B i0 k) (i0 + k) = none := by
  unfold findP
  rw [Option.map_eq_none_iff, List.find?_eq_none]
  rintro ⟨i, s⟩ hm
  obtain ⟨t, ht, e, _⟩ := mem_layP.1 hm
  simp
  omega
theorem layP_len (D B : List UInt8) (i0 k : Nat) : (layP D B i0 k).length = k := by unfold layP; rw [List.length_map, List.length_range]
/-- A row of pending pieces, some of them or all, torn: what lies off their place stays; so does what they write as it is. -/
theorem lay_torn {n : Nat} {D B E : List UInt8} {i0 k q : Nat} (hD : D.length = 64 * n) (ht : Torn n D (layP D B i0 k) E) (hk : i0 + k ≤ n) (hq : q < 64) (hB : B.take q = (sec D i0).take q) :
    ∀ j, (j < 64 * i0 + q ∨ 64 * (i0 + k) ≤ j) → E[j]? = D[j]? := by
  by_cases h0 : k = 0
  · subst h0
    rw [layP_zero] at ht
    intro j _
    rw [ht.nil hD]
  · have hsl : (sec D i0).length = 64 := sec_length hD (by omega)
    refine ht.off hD (fun i s hm => ?_) hq (fun s hm => ?_) hk
    · obtain ⟨t, ht, rfl, _⟩ := mem_layP.1 hm
      omega
    · obtain ⟨t, ht', e, rfl⟩ := mem_layP.1 hm
      have t0 : t = 0 := by omega
      subst t0
      rw [Nat.add_zero]
      have hc : chunkB B 0 = B.take 64 := by unfold chunkB; rw [Nat.mul_zero, List.drop_zero]
      have hcl := chunkB_len B 0
      refine ⟨?_, by rw [overB_length _ _ _ (by omega)]; exact hsl⟩
      rw [overB_zero, hc]
      have hBq : (B.take q).length = q := by rw [hB, List.length_take, hsl]; omega
      rw [List.length_take] at hBq
      rw [List.take_append_of_le_length (by rw [List.length_take]; omega), List.take_take, Nat.min_eq_left (by omega), hB]
/-- All of them kept: what lies off their place stays, at their place is what was written. -/
theorem lay_full {n : Nat} {D B E : List UInt8} {i0 : Nat} (hD : D.length = 64 * n) (hf : Full n D (layP D B i0 (chunkN B)) E) (hk : i0 + chunkN B ≤ n) :
    (∀ j, (j < 64 * i0 ∨ 64 * i0 + B.length ≤ j) → E[j]? = D[j]?) ∧ (∀ j, j < B.length → E[64 * i0 + j]? = B[j]?) := by
  have hin : ∀ j, j < 64 * n → ∀ t, t < chunkN B → j / 64 = i0 + t → E[j]? = (overB (sec D (i0 + t)) 0 (chunkB B t))[j % 64]? := fun j hj t ht e => by
    rw [sec_off hj, e, hf.full (i0 + t) _ (mem_layP.2 ⟨t, ht, rfl, rfl⟩)]
  have hout : ∀ j, j < 64 * n → (j / 64 < i0 ∨ i0 + chunkN B ≤ j / 64) → E[j]? = D[j]? := fun j hj hne => by
    rw [sec_off hj, sec_off (D := D) hj, hf.same _ (by omega) (fun s hs => ?_)]
    obtain ⟨t, ht, e, _⟩ := mem_layP.1 hs
    omega
  have hN : chunkN B = (B.length + 63) / 64 := rfl
  constructor
  · intro j hj
    by_cases hjn : j < 64 * n
    · by_cases hm : i0 ≤ j / 64 ∧ j / 64 < i0 + chunkN B
      · obtain ⟨t, ht⟩ : ∃ t, j / 64 = i0 + t := ⟨j / 64 - i0, by omega⟩
        have htl : t < chunkN B := by omega
        have hsl : (sec D (i0 + t)).length = 64 := sec_length hD (by omega)
        have hcl := chunkB_len B t
        rw [hin j hjn t htl ht, overB_zero, List.getElem?_append_right (by omega), List.getElem?_drop, sec_off (D := D) hjn, ht]
        congr 1
        omega
      · exact hout j hjn (by omega)
    · rw [List.getElem?_eq_none (by rw [hf.len]; omega), List.getElem?_eq_none (by omega)]
  · intro j hj
    have hjn : 64 * i0 + j < 64 * n := by omega
    have ht : (64 * i0 + j) / 64 = i0 + j / 64 := by omega
    have htl : j / 64 < chunkN B := by omega
    have hcl := chunkB_len B (j / 64)
    rw [hin _ hjn (j / 64) htl ht, overB_zero, List.getElem?_append_left (by omega)]
    unfold chunkB
    rw [List.getElem?_take, if_pos (by omega), List.getElem?_drop]
    congr 1
    omega
theorem Full.torn {n : Nat} {D E : List UInt8} {l : PendL} (hl : ∀ x ∈ l, x.2.length = 64) (h : Full n D l E) (hD : ∀ x ∈ l, (sec D x.1).length ≤ 64) : Torn n D l E := by
  refine ⟨h.len, h.same, fun i s hs => ⟨64, Nat.le_refl _, ?_⟩⟩
  have h1 : s.length = 64 := hl _ hs
  have h2 : (sec D i).length ≤ 64 := hD _ hs
  rw [h.full i s hs, List.take_of_length_le (by omega), List.drop_of_length_le (by omega), List.append_nil]
end
end Go.Proofs.YtpnpjblohijajabGreat
