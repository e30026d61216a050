/- JnlLaws, JnlStep, joined. -/
import Derived.Test.YtlalfagafbpkiaaGreatGrp37
import Derived.Test.YtlalfagafbpkiaaGreatGrp39
namespace Go.Proofs.YtlalfagafbpkiaaGreat
section
set_option linter.unusedSimpArgs false
set_option linter.unusedVariables false
set_option maxRecDepth 100000
open Go.RowKit Go.MapKept

theorem each_takenL {l : List (List UInt8)} {k : Nat} (h : takenM l ≤ k) : ∀ r ∈ l, r.length ≤ k := fun r hr => by
  unfold takenM at h
  have : r.length + 16 ≤ (l.map (fun r => r.length + 16)).sum := by
    obtain ⟨a, b, rfl⟩ := List.append_of_mem hr
    simp
    omega
  omega
theorem crash_in (w0 : World) (j p kb mb n : Nat) (lo : Option Addr) (lc : Nat) (l : List (List UInt8)) (N : Nat) (ao : Option Addr) (k c : Nat) (cs : List UInt8) (w : World) (H : JL w0 w j p kb mb n lo lc l N) (hB : By w0 ao c cs) (hk : k = cs.length) (hlt : ∀ ad, ao = some ad → ad.block < w0.heap.size) :
    Calls Tryz.prog 8 #[.pointer (some ⟨p, 0, none⟩), .slice ao k c] w fun e w' => e = .returned (.tuple #[]) ∧ ∃ D, DL w0 w' p kb mb n D ∧ GoodL n D l N := by
  obtain ⟨D, hD, hg⟩ := H.disk
  refine (crash_on w0 p kb mb n D ao k c cs w hD (hB.later H.below) hk (fun ad had => ⟨Nat.lt_of_lt_of_le (hlt ad had) H.below.size, fun hf => by have := hD.new _ hf; have := hlt ad had; omega⟩)).mono ?_
  rintro e w' ⟨rfl, h, _⟩
  exact ⟨rfl, D, h, hg⟩
theorem Strs.takeL {w : World} {ao : Option Addr} {c : Nat} {l : List (List UInt8)} (h : Strs w ao c l) (k : Nat) : Strs w ao c (l.take k) := by
  refine ⟨by rw [List.length_take]; have := h.le; omega, h.cap, h.nil, fun ad had i hi => ?_⟩
  have hi' : i < l.length := by rw [List.length_take] at hi; omega
  rw [h.cell ad had i hi', List.getElem_take]
theorem Strs.initL {w : World} {ao : Option Addr} {c : Nat} {l m : List (List UInt8)} (h : Strs w ao c (l ++ m)) : Strs w ao c l := by
  have := h.takeL l.length
  rwa [List.take_left] at this
end

section
set_option linter.unusedSimpArgs false
set_option linter.unusedVariables false
set_option maxRecDepth 100000
open Go.ChangeShapes Go.WideShapes Go.ChangeAt Go.RowKit

structure StepV where
  what : Int
  s : List UInt8
  lo : Option Addr
  lc : Nat
  l : List (List UInt8)
  pw : Int
  co : Option Addr
  cc : Nat
  cs : List UInt8
def stepL (x : StepV) : List Value := [.int .i64 x.what, strV x.s, .slice x.lo x.l.length x.lc, .int .i64 x.pw, .slice x.co x.cs.length x.cc]
structure StepOk (w : World) (M : Nat) (x : StepV) : Prop where
  what : -9223372036854775808 ≤ x.what ∧ x.what ≤ 9223372036854775807
  s : x.s.length ≤ M
  l : Strs w x.lo x.lc x.l
  each : ∀ r ∈ x.l, r.length ≤ M
  pw : -9223372036854775808 ≤ x.pw ∧ x.pw ≤ 9223372036854775807
  cs : By w x.co x.cc x.cs
theorem StepOk.later {w w' : World} {M : Nat} {x : StepV} (h : StepOk w M x) (hb : Below w.heap.size w w') : StepOk w' M x := ⟨h.what, h.s, h.l.later hb, h.each, h.pw, h.cs.later hb⟩
theorem cut_atJ {α : Type} (l : List α) (k n : Nat) : l.drop k = (l.drop k).take n ++ l.drop (k + n) := by
  rw [← List.drop_drop, List.take_append_drop]
theorem cut_lastJ {α : Type} (l : List α) (k n : Nat) (h : l.length ≤ k + n) : (l.drop k).take n = l.drop k := List.take_of_length_le (by rw [List.length_drop]; omega)
theorem some_ofJ {α : Type} {l : List α} {i : Nat} {o : Option α} (h : o = l[i]?) (hi : i < l.length) : ∃ x, o = some x := ⟨l[i], by rw [h, List.getElem?_eq_getElem hi]⟩
theorem bounds_i64J {x : Int} (h : (Lit.int .i64 x).wf = true) : -9223372036854775808 ≤ x ∧ x ≤ 9223372036854775807 := by simpa [Lit.wf, IntKind.min, IntKind.max, IntKind.signed, IntKind.bits] using h
theorem reads_rows_w {H : Type} {enc : TypeId × Value → H} {P : Program} {W : World} {t e : TypeId} {fuel : Nat} {cs : List Value} {y : DataW H × List MemPlace} {T : Type} (L : T → List Value) (ok : T → Prop) (sz M : Nat)
    (ht : P.underlying t = some (.slice e)) (hce : P.cellsOf e = sz)
    (reads : ∀ (fuel : Nat) (y : DataW H × List MemPlace) (cs : List Value), (∀ n ∈ y.1.weights P e, n ≤ M) → DataW.trod enc P W 0 (fun _ => true) true fuel e cs = some y → ∃ x, cs = L x ∧ ok x) (hL : ∀ x, (L x).length = sz)
    (hM : ∀ n ∈ y.1.weights P t, n ≤ M) (hf : DataW.trod enc P W 0 (fun _ => true) true fuel t cs = some y) :
    ∃ (ao : Option Addr) (c : Nat) (xs : List T), cs = [.slice ao xs.length c] ∧ Sl W ao c sz (xs.map L) ∧ ∀ x ∈ xs, ok x := by
  rcases Go.Deep.open_slice ht hf with ⟨rfl, _⟩ | ⟨a, len, m', m, n, D, Pl, rfl, _, hl, hm, hmm, hd, hx⟩
  · exact ⟨none, 0, [], rfl, Sl.nothing _ _, fun _ h => by cases h⟩
  · have hm' : m = m' := by simpa using hmm
    subst hm'
    have hd1 : y.1 = _ := congrArg Prod.fst hd
    have hw : ∀ i, i < len → ∀ n ∈ (D i).weights P e, n ≤ M := fun i hi n hn => by
      refine hM n ?_
      rw [hd1]
      simp only [DataW.weights, ht, List.mem_cons, List.mem_append]
      exact .inr (.inl (wts_all (List.mem_map.2 ⟨i, List.mem_range.2 hi, rfl⟩) n hn))
    have each : ∀ i : Fin len, ∃ x : T, ok x ∧ ∀ j, j < sz → W.cell? (a.add (i.val * sz + j)) = (L x)[j]? := by
      intro i
      obtain ⟨cs', h1, h2⟩ := hx i.val (by have := i.isLt; omega)
      rw [hce] at h1
      obtain ⟨_, hlen, hcell⟩ := World.cells?_some h1
      obtain ⟨x, rfl, hok⟩ := reads _ _ _ (hw i.val i.isLt) h2
      refine ⟨x, hok, fun j hj => ?_⟩
      have := hcell j hj
      rw [Go.Deep.add_add] at this
      exact this
    refine ⟨some a, m, List.ofFn fun i : Fin len => (each i).choose, by rw [List.length_ofFn], ⟨?_, hm, (fun h => by cases h), ?_, fun ad had i hi j hj => ?_⟩, ?_⟩
    · rw [List.length_map, List.length_ofFn]; exact hl
    · intro r hr
      obtain ⟨x, _, rfl⟩ := List.mem_map.1 hr
      exact hL x
    · obtain rfl := Option.some.inj had
      have hi' : i < len := by rw [List.length_map, List.length_ofFn] at hi; exact hi
      have := (each ⟨i, hi'⟩).choose_spec.2 j hj
      rw [this]
      simp
    · intro x hx
      obtain ⟨i, rfl⟩ := List.mem_ofFn.1 hx
      exact (each i).choose_spec.1
section
variable {H : Type} {enc : TypeId × Value → H} {W : World} {base fuel : Nat} {cs : List Value} {y : DataW H × List MemPlace} {v : Value} {d : DataW H} {p : List MemPlace} {M : Nat}
theorem reads_strsJ (hM : ∀ n ∈ y.1.weights Tryz.prog 30, n ≤ M) (h : DataW.trod enc Tryz.prog W 0 (fun _ => true) true fuel 30 cs = some y) :
    ∃ ao c l, cs = [.slice ao l.length c] ∧ Strs W ao c l ∧ ∀ s ∈ l, s.length ≤ M := by
  obtain ⟨ao, c, xs, hv, hS, hl⟩ := reads_rows_w (P := Tryz.prog) (fun s : List UInt8 => [strV s]) (fun s => s.length ≤ M) 1 M Tryz.underlying30 co_strO (fun fuel y cs hw h => by
    obtain ⟨s, q, hy, hs⟩ := DataW.trod_string Tryz.underlying9 h
    refine ⟨s.data.toList, by rw [q]; unfold strV mkS; simp, hw _ ?_⟩
    rw [hy]
    simp [DataW.weights]) (fun _ => rfl) hM h
  refine ⟨ao, c, xs, hv, ⟨?_, hS.cap, hS.nil, fun ad had i hi => ?_⟩, hl⟩
  · have := hS.le
    rw [List.length_map] at this
    exact this
  · have := hS.at' ad had i (by rw [List.length_map]; exact hi) 0 (by decide)
    rw [Nat.mul_one, Nat.add_zero] at this
    rw [this, List.getElem_map]
    rfl
theorem reads_bytesJ (h : DataW.trod enc Tryz.prog W 0 (fun _ => true) true fuel 31 cs = some y) (hM : ∀ n ∈ y.1.weights Tryz.prog 31, n ≤ M) :
    ∃ ao c xs, cs = [.slice ao xs.length c] ∧ By W ao c xs := by
  obtain ⟨ao, c, xs, hv, hS, _⟩ := reads_rows_w (P := Tryz.prog) (fun x : UInt8 => [B x]) (fun _ => True) 1 M Tryz.underlying31 co_byteO (fun fuel y cs _ h => by
    obtain ⟨x, q, _, hk⟩ := DataW.trod_int Tryz.underlying5 h
    have b := bounds_u8J hk
    obtain ⟨k, rfl⟩ := Int.eq_ofNat_of_zero_le b.1
    refine ⟨UInt8.ofNat k, ?_, trivial⟩
    rw [q]
    unfold B
    rw [UInt8.toNat_ofNat', Nat.mod_eq_of_lt (by omega)]) (fun _ => rfl) hM h
  refine ⟨ao, c, xs, hv, ⟨?_, hS.cap, hS.nil, fun ad had j u hu => ?_⟩⟩
  · have := hS.le
    rw [List.length_map] at this
    exact this
  · have hj : j < xs.length := by
      have := (List.getElem?_eq_some_iff.1 hu).1
      rwa [Bs_length] at this
    have := hS.at' ad had j (by rw [List.length_map]; exact hj) 0 (by decide)
    rw [Nat.mul_one, Nat.add_zero] at this
    rw [this, ← hu, List.getElem_map]
    show some (B xs[j]) = (Bs xs)[j]?
    unfold Bs
    rw [List.getElem?_map, List.getElem?_eq_getElem hj]
    rfl
theorem co_stepJ : Tryz.prog.cellsOf 33 = 5 := by kernel_rfl
theorem co_strsJ : Tryz.prog.cellsOf 30 = 1 := by kernel_rfl
theorem co_bytesJ : Tryz.prog.cellsOf 31 = 1 := by kernel_rfl
theorem co_intJ : Tryz.prog.cellsOf 3 = 1 := by kernel_rfl
theorem reads_step (hM : ∀ n ∈ y.1.weights Tryz.prog 33, n ≤ M) (h : DataW.trod enc Tryz.prog W 0 (fun _ => true) true fuel 33 cs = some y) : ∃ x, cs = stepL x ∧ StepOk W M x := by
  obtain ⟨xs, n, _, hy, hl, hxl, hf⟩ := DataW.trod_struct Tryz.underlying33 h
  rw [co_stepJ] at hl
  have hxl : xs.length = 5 := hxl
  have h0 : DataW.trod enc Tryz.prog W 0 (fun _ => true) true n 3 ((cs.drop 0).take (Tryz.prog.cellsOf 3)) = xs[0]? := hf 0 _ rfl
  have h1 : DataW.trod enc Tryz.prog W 0 (fun _ => true) true n 9 ((cs.drop 1).take (Tryz.prog.cellsOf 9)) = xs[1]? := hf 1 _ rfl
  have h2 : DataW.trod enc Tryz.prog W 0 (fun _ => true) true n 30 ((cs.drop 2).take (Tryz.prog.cellsOf 30)) = xs[2]? := hf 2 _ rfl
  have h3 : DataW.trod enc Tryz.prog W 0 (fun _ => true) true n 3 ((cs.drop 3).take (Tryz.prog.cellsOf 3)) = xs[3]? := hf 3 _ rfl
  have h4 : DataW.trod enc Tryz.prog W 0 (fun _ => true) true n 31 ((cs.drop 4).take (Tryz.prog.cellsOf 31)) = xs[4]? := hf 4 _ rfl
  have hwt : ∀ (j : Nat) (t : TypeId) (z : DataW H × List MemPlace), xs[j]? = some z → ([3, 9, 30, 3, 31] : List TypeId)[j]? = some t → ∀ n ∈ z.1.weights Tryz.prog t, n ≤ M := fun j t z hz ht n hn => by
    refine hM n ?_
    rw [show y.1 = DataW.agg (xs.map (·.1)) from congrArg Prod.fst hy]
    have : DataW.weights Tryz.prog 33 (DataW.agg (xs.map (·.1))) = DataW.weightsEach Tryz.prog [3, 9, 30, 3, 31] (xs.map (·.1)) := by
      simp only [DataW.weights, Tryz.underlying33]
      rfl
    rw [this]
    exact DataW.weights_mem_each ht (by rw [List.getElem?_map, hz]; rfl) n hn
  rw [co_intJ] at h0 h3
  rw [co_strO] at h1
  rw [co_strsJ] at h2
  rw [co_bytesJ] at h4
  obtain ⟨y0, e0⟩ := some_ofJ h0 (by omega)
  obtain ⟨y1, e1⟩ := some_ofJ h1 (by omega)
  obtain ⟨y2, e2⟩ := some_ofJ h2 (by omega)
  obtain ⟨y3, e3⟩ := some_ofJ h3 (by omega)
  obtain ⟨y4, e4⟩ := some_ofJ h4 (by omega)
  obtain ⟨x0, q0, _, w0⟩ := DataW.trod_int Tryz.underlying3 e0
  obtain ⟨x1, q1, z1, _⟩ := DataW.trod_string Tryz.underlying9 e1
  obtain ⟨lo, lc, l, q2, hS, he⟩ := reads_strsJ (hwt 2 _ y2 (h2.symm.trans e2) rfl) e2
  obtain ⟨x3, q3, _, w3⟩ := DataW.trod_int Tryz.underlying3 e3
  obtain ⟨co, cc, cb, q4, hB⟩ := reads_bytesJ e4 (hwt 4 _ y4 (h4.symm.trans e4) rfl)
  have hs1 : x1.data.toList.length ≤ M := hwt 1 _ y1 (h1.symm.trans e1) rfl _ (by rw [z1]; simp [DataW.weights])
  refine ⟨⟨x0, x1.data.toList, lo, lc, l, x3, co, cc, cb⟩, ?_, ⟨bounds_i64J w0, hs1, hS, he, bounds_i64J w3, hB⟩⟩
  have a0 := cut_atJ cs 0 1
  have a1 := cut_atJ cs 1 1
  have a2 := cut_atJ cs 2 1
  have a3 := cut_atJ cs 3 1
  have a4 := cut_lastJ cs 4 1 (by omega)
  have e : cs = (cs.drop 0).take 1 ++ ((cs.drop 1).take 1 ++ ((cs.drop 2).take 1 ++ ((cs.drop 3).take 1 ++ (cs.drop 4).take 1))) := by
    rw [a4, ← a3, ← a2, ← a1, ← a0]
    rfl
  rw [e, q0, q1, q2, q3, q4]
  unfold stepL strV mkS
  simp
theorem open_steps (hM : ∀ n ∈ d.weights Tryz.prog 22, n ≤ M) (ok : Value.okWide Tryz.prog W .any base 22 v) (h : DataW.Trod enc Tryz.prog W 0 (fun _ => true) true 22 v d p) :
    ∃ ao c, ∃ l : List StepV, v = .slice ao l.length c ∧ Sl W ao c 5 (l.map stepL) ∧ ∀ x ∈ l, StepOk W M x :=
  open_rows_w (P := Tryz.prog) stepL (StepOk W M) 5 M Tryz.underlying22 co_stepJ (fun fuel y cs hw h => reads_step hw h) (fun _ => rfl) hM ok h
end
end
end Go.Proofs.YtlalfagafbpkiaaGreat
