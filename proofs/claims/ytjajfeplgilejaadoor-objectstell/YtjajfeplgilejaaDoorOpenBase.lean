/- What comes in, opened: a whole base by value. -/
import Derived.Test.YtjajfeplgilejaaDoorOpenObj
import Derived.SizedLaws
namespace Go.Proofs.YtjajfeplgilejaaDoor
set_option linter.unusedSimpArgs false
set_option linter.unusedVariables false
set_option maxRecDepth 100000
open Go.ChangeShapes Go.WideShapes Go.ChangeAt Go.RowKit

structure ObjFit (M : Nat) (x : ObjV) : Prop where
  data : x.data.length ≤ M
  a0 : x.a0.length ≤ M
  a1 : x.a1.length ≤ M
  a2 : x.a2.length ≤ M
structure LastFit (l : LastV) : Prop where
  seq : l.seq < 4294967296
  code : l.r.code < 256
  data : l.r.data.length ≤ 9223372036854775807
structure BaseFit (M : Nat) (b : BaseV) : Prop where
  obj : ∀ i, ObjFit M (b.obj i)
  last : ∀ i, LastFit (b.last i)

theorem cut_at {α : Type} (l : List α) (k n : Nat) : l.drop k = (l.drop k).take n ++ l.drop (k + n) := by
  rw [← List.drop_drop, List.take_append_drop]
theorem cut_last {α : Type} (l : List α) (k n : Nat) (h : l.length ≤ k + n) : (l.drop k).take n = l.drop k := List.take_of_length_le (by rw [List.length_drop]; omega)

theorem weights_mem_all {H : Type} {P : Program} {e : TypeId} : ∀ {ds : List (DataW H)} {j : Nat} {d : DataW H}, ds[j]? = some d → ∀ n ∈ d.weights P e, n ∈ DataW.weightsAll P e ds
  | d0 :: ds, 0, d, hd, n, hn => by
    simp only [List.getElem?_cons_zero, Option.some.injEq] at hd
    subst hd
    simp only [DataW.weightsAll, List.mem_append]
    exact Or.inl hn
  | d0 :: ds, j + 1, d, hd, n, hn => by
    simp only [List.getElem?_cons_succ] at hd
    simp only [DataW.weightsAll, List.mem_append]
    exact Or.inr (weights_mem_all hd n hn)
  | [], _, _, hd, _, _ => by simp at hd

section
variable {H : Type} {P : Program} {t : TypeId} {xs : List (DataW H × List MemPlace)} {M : Nat} {y : DataW H × List MemPlace}
theorem le_struct {fs : Array Field} (hu : P.underlying t = some (.struct fs)) (hy : y = (.agg (xs.map (·.1)), xs.flatMap (·.2))) (hM : ∀ n ∈ y.1.weights P t, n ≤ M) (j : Nat) (tj : TypeId) {z : DataW H × List MemPlace} (ht : (fs.toList.map (·.type))[j]? = some tj) (hj : xs[j]? = some z) :
    ∀ n ∈ z.1.weights P tj, n ≤ M := by
  intro n hn
  refine hM n ?_
  rw [hy]
  show n ∈ DataW.weights P t (.agg (xs.map (·.1)))
  simp only [DataW.weights, hu]
  exact DataW.weights_mem_each ht (show (xs.map (·.1))[j]? = some z.1 by rw [List.getElem?_map, hj]; rfl) n hn
theorem le_array {k : Nat} {e : TypeId} (hu : P.underlying t = some (.array k e)) (hy : y = (.agg (xs.map (·.1)), xs.flatMap (·.2))) (hM : ∀ n ∈ y.1.weights P t, n ≤ M) {j : Nat} {z : DataW H × List MemPlace} (hj : xs[j]? = some z) :
    ∀ n ∈ z.1.weights P e, n ≤ M := by
  intro n hn
  refine hM n ?_
  rw [hy]
  show n ∈ DataW.weights P t (.agg (xs.map (·.1)))
  simp only [DataW.weights, hu]
  exact weights_mem_all (show (xs.map (·.1))[j]? = some z.1 by rw [List.getElem?_map, hj]; rfl) n hn
end

section
variable {H : Type} {enc : TypeId × Value → H} {W : World} {base : Nat} {spare : Nat → Bool} {held : Bool} {fuel : Nat} {y : DataW H × List MemPlace}

theorem reads_str {cs : List Value} (h : DataW.trod enc Tryd.prog W base spare held fuel 9 cs = some y) : ∃ s : List UInt8, cs = [strV s] ∧ s.length ≤ 9223372036854775807 := by
  obtain ⟨s, q, _, hs⟩ := DataW.trod_string Tryd.underlying9 h
  refine ⟨s.data.toList, by rw [q, ← str_of], ?_⟩
  rw [Array.length_toList]
  exact hs

theorem reads_strM {cs : List Value} (h : DataW.trod enc Tryd.prog W base spare held fuel 9 cs = some y) {M : Nat} (hM : ∀ n ∈ y.1.weights Tryd.prog 9, n ≤ M) : ∃ s : List UInt8, cs = [strV s] ∧ s.length ≤ M := by
  obtain ⟨s, q, hy, hs⟩ := DataW.trod_string Tryd.underlying9 h
  refine ⟨s.data.toList, by rw [q, ← str_of], hM _ ?_⟩
  rw [hy]
  simp [DataW.weights]

theorem reads_attrs {cs : List Value} (h : DataW.trod enc Tryd.prog W base spare held fuel 22 cs = some y) {M : Nat} (hM : ∀ n ∈ y.1.weights Tryd.prog 22, n ≤ M) :
    ∃ a b c : List UInt8, cs = [strV a, strV b, strV c] ∧ a.length ≤ M ∧ b.length ≤ M ∧ c.length ≤ M := by
  obtain ⟨zs, m, _, hy, hl, hzl, hz⟩ := DataW.trod_array Tryd.underlying22 h
  have hl : cs.length = 3 := by rw [← co_attrs]; exact hl
  have hall : ∀ i : Fin 3, ∃ s : List UInt8, (cs.drop i.val).take 1 = [strV s] ∧ s.length ≤ M := by
    intro i
    have hi := hz i.val i.isLt
    rw [co_string, Nat.mul_one] at hi
    obtain ⟨y, ey⟩ := some_of' hi (by rw [hzl]; exact i.isLt)
    exact reads_strM ey (le_array Tryd.underlying22 hy hM (hi.symm.trans ey))
  obtain ⟨a, ea, ha⟩ := hall 0
  obtain ⟨b, eb, hb⟩ := hall 1
  obtain ⟨c, ec, hc⟩ := hall 2
  refine ⟨a, b, c, ?_, ha, hb, hc⟩
  have a0 := cut_at cs 0 1
  have a1 := cut_at cs 1 1
  have a2 := cut_last cs 2 1 (by omega)
  have e : cs = (cs.drop 0).take 1 ++ ((cs.drop 1).take 1 ++ (cs.drop 2).take 1) := by
    rw [a2, ← a1, ← a0]
    rfl
  rw [e]
  have ea : (cs.drop 0).take 1 = [strV a] := ea
  have eb : (cs.drop 1).take 1 = [strV b] := eb
  have ec : (cs.drop 2).take 1 = [strV c] := ec
  rw [ea, eb, ec]
  rfl

theorem reads_res {cs : List Value} (h : DataW.trod enc Tryd.prog W base spare held fuel 28 cs = some y) : ∃ r : ResV, cs = resL r ∧ r.code < 256 ∧ r.data.length ≤ 9223372036854775807 := by
  obtain ⟨xs, n, _, _, hl, hxl, hf⟩ := DataW.trod_struct Tryd.underlying28 h
  rw [co_res] at hl
  have hxl : xs.length = 2 := hxl
  have h0 : DataW.trod enc Tryd.prog W base spare held n 5 ((cs.drop 0).take (Tryd.prog.cellsOf 5)) = xs[0]? := hf 0 _ rfl
  have h1 : DataW.trod enc Tryd.prog W base spare held n 9 ((cs.drop 1).take (Tryd.prog.cellsOf 9)) = xs[1]? := hf 1 _ rfl
  rw [co_u8] at h0
  rw [co_string] at h1
  obtain ⟨y0, e0⟩ := some_of' h0 (by omega)
  obtain ⟨y1, e1⟩ := some_of' h1 (by omega)
  obtain ⟨x0, q0, _, w0⟩ := DataW.trod_int Tryd.underlying5 e0
  obtain ⟨s, q1, hs⟩ := reads_str e1
  have b0 := bounds_u8 w0
  obtain ⟨k0, rfl⟩ := Int.eq_ofNat_of_zero_le b0.1
  refine ⟨⟨k0, s⟩, ?_, show k0 < 256 by omega, hs⟩
  have a0 := cut_at cs 0 1
  have a1 := cut_last cs 1 1 (by omega)
  have e : cs = (cs.drop 0).take 1 ++ (cs.drop 1).take 1 := by
    rw [a1, ← a0]
    rfl
  rw [e, q0, q1]
  rfl

theorem reads_last {cs : List Value} (h : DataW.trod enc Tryd.prog W base spare held fuel 30 cs = some y) : ∃ l : LastV, cs = lastL l ∧ LastFit l := by
  obtain ⟨xs, n, _, _, hl, hxl, hf⟩ := DataW.trod_struct Tryd.underlying30 h
  rw [co_last] at hl
  have hxl : xs.length = 2 := hxl
  have h0 : DataW.trod enc Tryd.prog W base spare held n 26 ((cs.drop 0).take (Tryd.prog.cellsOf 26)) = xs[0]? := hf 0 _ rfl
  have h1 : DataW.trod enc Tryd.prog W base spare held n 28 ((cs.drop 1).take (Tryd.prog.cellsOf 28)) = xs[1]? := hf 1 _ rfl
  rw [co_u32] at h0
  rw [co_res] at h1
  obtain ⟨y0, e0⟩ := some_of' h0 (by omega)
  obtain ⟨y1, e1⟩ := some_of' h1 (by omega)
  obtain ⟨x0, q0, _, w0⟩ := DataW.trod_int Tryd.underlying26 e0
  obtain ⟨r, q1, hc, hd⟩ := reads_res e1
  have b0 := bounds_u32 w0
  obtain ⟨k0, rfl⟩ := Int.eq_ofNat_of_zero_le b0.1
  refine ⟨⟨k0, r⟩, ?_, ⟨show k0 < 4294967296 by omega, hc, hd⟩⟩
  have a0 := cut_at cs 0 1
  have a1 := cut_last cs 1 2 (by omega)
  have e : cs = (cs.drop 0).take 1 ++ (cs.drop 1).take 2 := by
    rw [a1, ← a0]
    rfl
  rw [e, q0, q1]
  rfl

theorem reads_obj {cs : List Value} (h : DataW.trod enc Tryd.prog W base spare held fuel 24 cs = some y) {M : Nat} (hM : ∀ n ∈ y.1.weights Tryd.prog 24, n ≤ M) : ∃ x : ObjV, cs = objL x ∧ ObjFit M x := by
  obtain ⟨xs, n, _, hy, hl, hxl, hf⟩ := DataW.trod_struct Tryd.underlying24 h
  rw [co_obj] at hl
  have hxl : xs.length = 3 := hxl
  have h0 : DataW.trod enc Tryd.prog W base spare held n 4 ((cs.drop 0).take (Tryd.prog.cellsOf 4)) = xs[0]? := hf 0 _ rfl
  have h1 : DataW.trod enc Tryd.prog W base spare held n 9 ((cs.drop 1).take (Tryd.prog.cellsOf 9)) = xs[1]? := hf 1 _ rfl
  have h2 : DataW.trod enc Tryd.prog W base spare held n 22 ((cs.drop 2).take (Tryd.prog.cellsOf 22)) = xs[2]? := hf 2 _ rfl
  rw [co_bool] at h0
  rw [co_string] at h1
  rw [co_attrs] at h2
  obtain ⟨y0, e0⟩ := some_of' h0 (by omega)
  obtain ⟨y1, e1⟩ := some_of' h1 (by omega)
  obtain ⟨y2, e2⟩ := some_of' h2 (by omega)
  obtain ⟨x0, q0, _⟩ := DataW.trod_bool Tryd.underlying4 e0
  obtain ⟨s, q1, hs⟩ := reads_strM e1 (le_struct Tryd.underlying24 hy hM 1 9 rfl (h1.symm.trans e1))
  obtain ⟨a, b, c, q2, ha, hb, hc⟩ := reads_attrs e2 (le_struct Tryd.underlying24 hy hM 2 22 rfl (h2.symm.trans e2))
  refine ⟨⟨x0, s, a, b, c⟩, ?_, ⟨hs, ha, hb, hc⟩⟩
  have a0 := cut_at cs 0 1
  have a1 := cut_at cs 1 1
  have a2 := cut_last cs 2 3 (by omega)
  have e : cs = (cs.drop 0).take 1 ++ ((cs.drop 1).take 1 ++ (cs.drop 2).take 3) := by
    rw [a2, ← a1, ← a0]
    rfl
  rw [e, q0, q1, q2]
  rfl

theorem reads_objs {cs : List Value} (h : DataW.trod enc Tryd.prog W base spare held fuel 25 cs = some y) {M : Nat} (hM : ∀ n ∈ y.1.weights Tryd.prog 25, n ≤ M) : ∃ f : Fin 6 → ObjV, cs = objsL f ∧ ∀ i, ObjFit M (f i) := by
  obtain ⟨zs, m, _, hy, hl, hzl, hz⟩ := DataW.trod_array Tryd.underlying25 h
  have hl : cs.length = 30 := by rw [← co_objs]; exact hl
  have hall : ∀ i : Fin 6, ∃ x : ObjV, (cs.drop (i.val * 5)).take 5 = objL x ∧ ObjFit M x := by
    intro i
    have hi := hz i.val i.isLt
    rw [co_obj] at hi
    obtain ⟨y, ey⟩ := some_of' hi (by rw [hzl]; exact i.isLt)
    exact reads_obj ey (le_array Tryd.underlying25 hy hM (hi.symm.trans ey))
  refine ⟨fun i => (hall i).choose, ?_, fun i => (hall i).choose_spec.2⟩
  have s0 := (hall 0).choose_spec.1
  have s1 := (hall 1).choose_spec.1
  have s2 := (hall 2).choose_spec.1
  have s3 := (hall 3).choose_spec.1
  have s4 := (hall 4).choose_spec.1
  have s5 := (hall 5).choose_spec.1
  show cs = objL (hall 0).choose ++ (objL (hall 1).choose ++ (objL (hall 2).choose ++ (objL (hall 3).choose ++ (objL (hall 4).choose ++ objL (hall 5).choose))))
  rw [← s0, ← s1, ← s2, ← s3, ← s4, ← s5]
  have a0 := cut_at cs 0 5
  have a1 := cut_at cs 5 5
  have a2 := cut_at cs 10 5
  have a3 := cut_at cs 15 5
  have a4 := cut_at cs 20 5
  have a5 := cut_last cs 25 5 (by omega)
  show cs = (cs.drop 0).take 5 ++ ((cs.drop 5).take 5 ++ ((cs.drop 10).take 5 ++ ((cs.drop 15).take 5 ++ ((cs.drop 20).take 5 ++ (cs.drop 25).take 5))))
  rw [a5, ← a4, ← a3, ← a2, ← a1, ← a0]
  rfl

theorem reads_lasts {cs : List Value} (h : DataW.trod enc Tryd.prog W base spare held fuel 31 cs = some y) : ∃ f : Fin 3 → LastV, cs = lastsL f ∧ ∀ i, LastFit (f i) := by
  obtain ⟨zs, m, _, _, hl, hzl, hz⟩ := DataW.trod_array Tryd.underlying31 h
  have hl : cs.length = 9 := by rw [← co_lasts]; exact hl
  have hall : ∀ i : Fin 3, ∃ x : LastV, (cs.drop (i.val * 3)).take 3 = lastL x ∧ LastFit x := by
    intro i
    have hi := hz i.val i.isLt
    rw [co_last] at hi
    obtain ⟨y, ey⟩ := some_of' hi (by rw [hzl]; exact i.isLt)
    exact reads_last ey
  refine ⟨fun i => (hall i).choose, ?_, fun i => (hall i).choose_spec.2⟩
  have s0 := (hall 0).choose_spec.1
  have s1 := (hall 1).choose_spec.1
  have s2 := (hall 2).choose_spec.1
  show cs = lastL (hall 0).choose ++ (lastL (hall 1).choose ++ lastL (hall 2).choose)
  rw [← s0, ← s1, ← s2]
  have a0 := cut_at cs 0 3
  have a1 := cut_at cs 3 3
  have a2 := cut_last cs 6 3 (by omega)
  show cs = (cs.drop 0).take 3 ++ ((cs.drop 3).take 3 ++ (cs.drop 6).take 3)
  rw [a2, ← a1, ← a0]
  rfl

theorem reads_base {cs : List Value} (h : DataW.trod enc Tryd.prog W base spare held fuel 33 cs = some y) {M : Nat} (hM : ∀ n ∈ y.1.weights Tryd.prog 33, n ≤ M) : ∃ b : BaseV, cs = baseL b ∧ BaseFit M b := by
  obtain ⟨xs, n, _, hy, hl, hxl, hf⟩ := DataW.trod_struct Tryd.underlying33 h
  rw [co_base] at hl
  have hxl : xs.length = 2 := hxl
  have h0 : DataW.trod enc Tryd.prog W base spare held n 25 ((cs.drop 0).take (Tryd.prog.cellsOf 25)) = xs[0]? := hf 0 _ rfl
  have h1 : DataW.trod enc Tryd.prog W base spare held n 31 ((cs.drop 30).take (Tryd.prog.cellsOf 31)) = xs[1]? := hf 1 _ rfl
  rw [co_objs] at h0
  rw [co_lasts] at h1
  obtain ⟨y0, e0⟩ := some_of' h0 (by omega)
  obtain ⟨y1, e1⟩ := some_of' h1 (by omega)
  obtain ⟨f, q0, hF⟩ := reads_objs e0 (le_struct Tryd.underlying33 hy hM 0 25 rfl (h0.symm.trans e0))
  obtain ⟨g, q1, hG⟩ := reads_lasts e1
  refine ⟨⟨f, g⟩, ?_, ⟨hF, hG⟩⟩
  have a0 := cut_at cs 0 30
  have a1 := cut_last cs 30 9 (by omega)
  have e : cs = (cs.drop 0).take 30 ++ (cs.drop 30).take 9 := by
    rw [a1, ← a0]
    rfl
  rw [e, q0, q1]
  rfl
end

theorem open_base {H : Type} {enc : TypeId × Value → H} {W : World} {base : Nat} {v : Value} {d : DataW H} {p : List MemPlace} (ok : Value.okWide Tryd.prog W .any base 33 v) (h : DataW.Trod enc Tryd.prog W 0 (fun _ => true) true 33 v d p) {M : Nat} (hM : ∀ n ∈ d.weights Tryd.prog 33, n ≤ M) : ∃ b : BaseV, v = .agg (baseC b) ∧ BaseFit M b := by
  obtain ⟨cs, rfl, hsz⟩ := okWide_struct Tryd.underlying33 ok
  obtain ⟨fuel, hf⟩ := h
  obtain ⟨b, hx, hk⟩ := reads_base hf hM
  exact ⟨b, by rw [show cs = baseC b from Array.toList_inj.1 hx], hk⟩
end Go.Proofs.YtjajfeplgilejaaDoor
