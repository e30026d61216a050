/- What comes in, opened: entries, states, differences by value. -/
import Derived.Test.YtecilienolabfaaGreatDoorPackObj
import Derived.Test.YtecilienolabfaaGreatDoorDiffMem
import Derived.Test.YtecilienolabfaaGreatDoorPackLog
import Derived.SizedLaws
namespace Go.Proofs.YtecilienolabfaaGreatDoor
set_option linter.unusedSimpArgs false
set_option linter.unusedVariables false
set_option maxRecDepth 100000
open Go.ChangeShapes Go.WideShapes Go.ChangeAt Go.RowKit

structure ObjFit (M : Nat) (x : ObjV) : Prop where
  data : x.data.length ≤ M
  a0 : x.a0.length ≤ M
  a1 : x.a1.length ≤ M
  a2 : x.a2.length ≤ M
structure LastFit (l : LastV) : Prop where
  seq : l.seq < 4294967296
  code : l.r.code < 256
  data : l.r.data.length ≤ 9223372036854775807
structure BaseFit (M : Nat) (b : BaseV) : Prop where
  obj : ∀ i, ObjFit 9223372036854775807 (b.obj i)
  last : ∀ i, LastFit (b.last i)

theorem cut_at {α : Type} (l : List α) (k n : Nat) : l.drop k = (l.drop k).take n ++ l.drop (k + n) := by
  rw [← List.drop_drop, List.take_append_drop]
theorem cut_last {α : Type} (l : List α) (k n : Nat) (h : l.length ≤ k + n) : (l.drop k).take n = l.drop k := List.take_of_length_le (by rw [List.length_drop]; omega)

section
variable {H : Type} {enc : TypeId × Value → H} {W : World} {base : Nat} {spare : Nat → Bool} {held : Bool} {fuel : Nat} {y : DataW H × List MemPlace}

theorem reads_str {cs : List Value} (h : DataW.trod enc Tryz.prog W base spare held fuel 9 cs = some y) : ∃ s : List UInt8, cs = [strV s] ∧ s.length ≤ 9223372036854775807 := by
  obtain ⟨s, q, _, hs⟩ := DataW.trod_string Tryz.underlying9 h
  refine ⟨s.data.toList, by rw [q, ← str_of], ?_⟩
  rw [Array.length_toList]
  exact hs

theorem reads_attrs {cs : List Value} (h : DataW.trod enc Tryz.prog W base spare held fuel 27 cs = some y) :
    ∃ a b c : List UInt8, cs = [strV a, strV b, strV c] ∧ a.length ≤ 9223372036854775807 ∧ b.length ≤ 9223372036854775807 ∧ c.length ≤ 9223372036854775807 := by
  obtain ⟨zs, m, _, hy, hl, hzl, hz⟩ := DataW.trod_array Tryz.underlying27 h
  have hl : cs.length = 3 := by rw [← co_attrs]; exact hl
  have hall : ∀ i : Fin 3, ∃ s : List UInt8, (cs.drop i.val).take 1 = [strV s] ∧ s.length ≤ 9223372036854775807 := by
    intro i
    have hi := hz i.val i.isLt
    rw [co_string, Nat.mul_one] at hi
    obtain ⟨y, ey⟩ := some_of' hi (by rw [hzl]; exact i.isLt)
    exact reads_str ey
  obtain ⟨a, ea, ha⟩ := hall 0
  obtain ⟨b, eb, hb⟩ := hall 1
  obtain ⟨c, ec, hc⟩ := hall 2
  refine ⟨a, b, c, ?_, ha, hb, hc⟩
  have a0 := cut_at cs 0 1
  have a1 := cut_at cs 1 1
  have a2 := cut_last cs 2 1 (by omega)
  have e : cs = (cs.drop 0).take 1 ++ ((cs.drop 1).take 1 ++ (cs.drop 2).take 1) := by
    rw [a2, ← a1, ← a0]
    rfl
  rw [e]
  have ea : (cs.drop 0).take 1 = [strV a] := ea
  have eb : (cs.drop 1).take 1 = [strV b] := eb
  have ec : (cs.drop 2).take 1 = [strV c] := ec
  rw [ea, eb, ec]
  rfl

theorem reads_res {cs : List Value} (h : DataW.trod enc Tryz.prog W base spare held fuel 32 cs = some y) : ∃ r : ResV, cs = resL r ∧ r.code < 256 ∧ r.data.length ≤ 9223372036854775807 := by
  obtain ⟨xs, n, _, _, hl, hxl, hf⟩ := DataW.trod_struct Tryz.underlying32 h
  rw [co_res] at hl
  have hxl : xs.length = 2 := hxl
  have h0 : DataW.trod enc Tryz.prog W base spare held n 5 ((cs.drop 0).take (Tryz.prog.cellsOf 5)) = xs[0]? := hf 0 _ rfl
  have h1 : DataW.trod enc Tryz.prog W base spare held n 9 ((cs.drop 1).take (Tryz.prog.cellsOf 9)) = xs[1]? := hf 1 _ rfl
  rw [co_u8] at h0
  rw [co_string] at h1
  obtain ⟨y0, e0⟩ := some_of' h0 (by omega)
  obtain ⟨y1, e1⟩ := some_of' h1 (by omega)
  obtain ⟨x0, q0, _, w0⟩ := DataW.trod_int Tryz.underlying5 e0
  obtain ⟨s, q1, hs⟩ := reads_str e1
  have b0 := bounds_u8 w0
  obtain ⟨k0, rfl⟩ := Int.eq_ofNat_of_zero_le b0.1
  refine ⟨⟨k0, s⟩, ?_, show k0 < 256 by omega, hs⟩
  have a0 := cut_at cs 0 1
  have a1 := cut_last cs 1 1 (by omega)
  have e : cs = (cs.drop 0).take 1 ++ (cs.drop 1).take 1 := by
    rw [a1, ← a0]
    rfl
  rw [e, q0, q1]
  rfl

theorem reads_last {cs : List Value} (h : DataW.trod enc Tryz.prog W base spare held fuel 34 cs = some y) : ∃ l : LastV, cs = lastL l ∧ LastFit l := by
  obtain ⟨xs, n, _, _, hl, hxl, hf⟩ := DataW.trod_struct Tryz.underlying34 h
  rw [co_last] at hl
  have hxl : xs.length = 2 := hxl
  have h0 : DataW.trod enc Tryz.prog W base spare held n 22 ((cs.drop 0).take (Tryz.prog.cellsOf 22)) = xs[0]? := hf 0 _ rfl
  have h1 : DataW.trod enc Tryz.prog W base spare held n 32 ((cs.drop 1).take (Tryz.prog.cellsOf 32)) = xs[1]? := hf 1 _ rfl
  rw [co_u32] at h0
  rw [co_res] at h1
  obtain ⟨y0, e0⟩ := some_of' h0 (by omega)
  obtain ⟨y1, e1⟩ := some_of' h1 (by omega)
  obtain ⟨x0, q0, _, w0⟩ := DataW.trod_int Tryz.underlying22 e0
  obtain ⟨r, q1, hc, hd⟩ := reads_res e1
  have b0 := bounds_u32 w0
  obtain ⟨k0, rfl⟩ := Int.eq_ofNat_of_zero_le b0.1
  refine ⟨⟨k0, r⟩, ?_, ⟨show k0 < 4294967296 by omega, hc, hd⟩⟩
  have a0 := cut_at cs 0 1
  have a1 := cut_last cs 1 2 (by omega)
  have e : cs = (cs.drop 0).take 1 ++ (cs.drop 1).take 2 := by
    rw [a1, ← a0]
    rfl
  rw [e, q0, q1]
  rfl

theorem reads_obj {cs : List Value} (h : DataW.trod enc Tryz.prog W base spare held fuel 29 cs = some y) : ∃ x : ObjV, cs = objL x ∧ ObjFit 9223372036854775807 x := by
  obtain ⟨xs, n, _, hy, hl, hxl, hf⟩ := DataW.trod_struct Tryz.underlying29 h
  rw [co_obj] at hl
  have hxl : xs.length = 3 := hxl
  have h0 : DataW.trod enc Tryz.prog W base spare held n 4 ((cs.drop 0).take (Tryz.prog.cellsOf 4)) = xs[0]? := hf 0 _ rfl
  have h1 : DataW.trod enc Tryz.prog W base spare held n 9 ((cs.drop 1).take (Tryz.prog.cellsOf 9)) = xs[1]? := hf 1 _ rfl
  have h2 : DataW.trod enc Tryz.prog W base spare held n 27 ((cs.drop 2).take (Tryz.prog.cellsOf 27)) = xs[2]? := hf 2 _ rfl
  rw [co_bool] at h0
  rw [co_string] at h1
  rw [co_attrs] at h2
  obtain ⟨y0, e0⟩ := some_of' h0 (by omega)
  obtain ⟨y1, e1⟩ := some_of' h1 (by omega)
  obtain ⟨y2, e2⟩ := some_of' h2 (by omega)
  obtain ⟨x0, q0, _⟩ := DataW.trod_bool Tryz.underlying4 e0
  obtain ⟨s, q1, hs⟩ := reads_str e1
  obtain ⟨a, b, c, q2, ha, hb, hc⟩ := reads_attrs e2
  refine ⟨⟨x0, s, a, b, c⟩, ?_, ⟨hs, ha, hb, hc⟩⟩
  have a0 := cut_at cs 0 1
  have a1 := cut_at cs 1 1
  have a2 := cut_last cs 2 3 (by omega)
  have e : cs = (cs.drop 0).take 1 ++ ((cs.drop 1).take 1 ++ (cs.drop 2).take 3) := by
    rw [a2, ← a1, ← a0]
    rfl
  rw [e, q0, q1, q2]
  rfl

theorem reads_objs {cs : List Value} (h : DataW.trod enc Tryz.prog W base spare held fuel 30 cs = some y) : ∃ f : Fin 6 → ObjV, cs = objsL f ∧ ∀ i, ObjFit 9223372036854775807 (f i) := by
  obtain ⟨zs, m, _, hy, hl, hzl, hz⟩ := DataW.trod_array Tryz.underlying30 h
  have hl : cs.length = 30 := by rw [← co_objs]; exact hl
  have hall : ∀ i : Fin 6, ∃ x : ObjV, (cs.drop (i.val * 5)).take 5 = objL x ∧ ObjFit 9223372036854775807 x := by
    intro i
    have hi := hz i.val i.isLt
    rw [co_obj] at hi
    obtain ⟨y, ey⟩ := some_of' hi (by rw [hzl]; exact i.isLt)
    exact reads_obj ey
  refine ⟨fun i => (hall i).choose, ?_, fun i => (hall i).choose_spec.2⟩
  have s0 := (hall 0).choose_spec.1
  have s1 := (hall 1).choose_spec.1
  have s2 := (hall 2).choose_spec.1
  have s3 := (hall 3).choose_spec.1
  have s4 := (hall 4).choose_spec.1
  have s5 := (hall 5).choose_spec.1
  show cs = objL (hall 0).choose ++ (objL (hall 1).choose ++ (objL (hall 2).choose ++ (objL (hall 3).choose ++ (objL (hall 4).choose ++ objL (hall 5).choose))))
  rw [← s0, ← s1, ← s2, ← s3, ← s4, ← s5]
  have a0 := cut_at cs 0 5
  have a1 := cut_at cs 5 5
  have a2 := cut_at cs 10 5
  have a3 := cut_at cs 15 5
  have a4 := cut_at cs 20 5
  have a5 := cut_last cs 25 5 (by omega)
  show cs = (cs.drop 0).take 5 ++ ((cs.drop 5).take 5 ++ ((cs.drop 10).take 5 ++ ((cs.drop 15).take 5 ++ ((cs.drop 20).take 5 ++ (cs.drop 25).take 5))))
  rw [a5, ← a4, ← a3, ← a2, ← a1, ← a0]
  rfl

theorem reads_lasts {cs : List Value} (h : DataW.trod enc Tryz.prog W base spare held fuel 35 cs = some y) : ∃ f : Fin 3 → LastV, cs = lastsL f ∧ ∀ i, LastFit (f i) := by
  obtain ⟨zs, m, _, _, hl, hzl, hz⟩ := DataW.trod_array Tryz.underlying35 h
  have hl : cs.length = 9 := by rw [← co_lasts]; exact hl
  have hall : ∀ i : Fin 3, ∃ x : LastV, (cs.drop (i.val * 3)).take 3 = lastL x ∧ LastFit x := by
    intro i
    have hi := hz i.val i.isLt
    rw [co_last] at hi
    obtain ⟨y, ey⟩ := some_of' hi (by rw [hzl]; exact i.isLt)
    exact reads_last ey
  refine ⟨fun i => (hall i).choose, ?_, fun i => (hall i).choose_spec.2⟩
  have s0 := (hall 0).choose_spec.1
  have s1 := (hall 1).choose_spec.1
  have s2 := (hall 2).choose_spec.1
  show cs = lastL (hall 0).choose ++ (lastL (hall 1).choose ++ lastL (hall 2).choose)
  rw [← s0, ← s1, ← s2]
  have a0 := cut_at cs 0 3
  have a1 := cut_at cs 3 3
  have a2 := cut_last cs 6 3 (by omega)
  show cs = (cs.drop 0).take 3 ++ ((cs.drop 3).take 3 ++ (cs.drop 6).take 3)
  rw [a2, ← a1, ← a0]
  rfl

theorem reads_base {cs : List Value} (h : DataW.trod enc Tryz.prog W base spare held fuel 37 cs = some y) : ∃ b : BaseV, cs = baseL b ∧ BaseFit 9223372036854775807 b := by
  obtain ⟨xs, n, _, hy, hl, hxl, hf⟩ := DataW.trod_struct Tryz.underlying37 h
  rw [co_base] at hl
  have hxl : xs.length = 2 := hxl
  have h0 : DataW.trod enc Tryz.prog W base spare held n 30 ((cs.drop 0).take (Tryz.prog.cellsOf 30)) = xs[0]? := hf 0 _ rfl
  have h1 : DataW.trod enc Tryz.prog W base spare held n 35 ((cs.drop 30).take (Tryz.prog.cellsOf 35)) = xs[1]? := hf 1 _ rfl
  rw [co_objs] at h0
  rw [co_lasts] at h1
  obtain ⟨y0, e0⟩ := some_of' h0 (by omega)
  obtain ⟨y1, e1⟩ := some_of' h1 (by omega)
  obtain ⟨f, q0, hF⟩ := reads_objs e0
  obtain ⟨g, q1, hG⟩ := reads_lasts e1
  refine ⟨⟨f, g⟩, ?_, ⟨hF, hG⟩⟩
  have a0 := cut_at cs 0 30
  have a1 := cut_last cs 30 9 (by omega)
  have e : cs = (cs.drop 0).take 30 ++ (cs.drop 30).take 9 := by
    rw [a1, ← a0]
    rfl
  rw [e, q0, q1]
  rfl
end


section
variable {H : Type} {enc : TypeId × Value → H} {W : World} {base : Nat} {spare : Nat → Bool} {held : Bool} {fuel : Nat} {y : DataW H × List MemPlace}
theorem BaseFit.in9 {b : BaseV} (h : BaseFit 9223372036854775807 b) : BaseIn b := ⟨fun i => (h.last i).seq, fun i => (h.last i).code, fun i => (h.last i).data, fun i => (h.obj i).data, fun i => (h.obj i).a0, fun i => (h.obj i).a1, fun i => (h.obj i).a2⟩

theorem reads_ent {cs : List Value} (h : DataW.trod enc Tryz.prog W base spare held fuel 41 cs = some y) : ∃ e : EntV, cs = entL e ∧ EntOk e := by
  obtain ⟨xs, n, _, _, hl, hxl, hf⟩ := DataW.trod_struct Tryz.underlying41 h
  rw [co_ent] at hl
  have hxl : xs.length = 3 := hxl
  have h0 : DataW.trod enc Tryz.prog W base spare held n 22 ((cs.drop 0).take (Tryz.prog.cellsOf 22)) = xs[0]? := hf 0 _ rfl
  have h1 : DataW.trod enc Tryz.prog W base spare held n 22 ((cs.drop 1).take (Tryz.prog.cellsOf 22)) = xs[1]? := hf 1 _ rfl
  have h2 : DataW.trod enc Tryz.prog W base spare held n 39 ((cs.drop 2).take (Tryz.prog.cellsOf 39)) = xs[2]? := hf 2 _ rfl
  rw [co_u32] at h0 h1
  rw [co_op] at h2
  obtain ⟨y0, e0⟩ := some_of' h0 (by omega)
  obtain ⟨y1, e1⟩ := some_of' h1 (by omega)
  obtain ⟨y2, e2⟩ := some_of' h2 (by omega)
  obtain ⟨x0, q0, _, w0⟩ := DataW.trod_int Tryz.underlying22 e0
  obtain ⟨x1, q1, _, w1⟩ := DataW.trod_int Tryz.underlying22 e1
  obtain ⟨o, q2, ho⟩ := reads_op e2
  have b0 := bounds_u32 w0
  have b1 := bounds_u32 w1
  obtain ⟨k0, rfl⟩ := Int.eq_ofNat_of_zero_le b0.1
  obtain ⟨k1, rfl⟩ := Int.eq_ofNat_of_zero_le b1.1
  refine ⟨⟨k0, k1, o⟩, ?_, ⟨show k0 < 4294967296 by omega, show k1 < 4294967296 by omega, ho⟩⟩
  have a0 := cut_at cs 0 1
  have a1 := cut_at cs 1 1
  have a2 := cut_last cs 2 6 (by omega)
  have e : cs = (cs.drop 0).take 1 ++ ((cs.drop 1).take 1 ++ (cs.drop 2).take 6) := by
    rw [a2, ← a1, ← a0]
    rfl
  rw [e, q0, q1, q2]
  rfl
theorem reads_ents {cs : List Value} (h : DataW.trod enc Tryz.prog W 0 (fun _ => true) true fuel 42 cs = some y) : ∃ ao c l, cs = [.slice ao l.length c] ∧ Sl W ao c 8 (entR l) ∧ ∀ e ∈ l, EntOk e := by
  rcases Go.Deep.open_slice Tryz.underlying42 h with ⟨hcs, _⟩ | ⟨a, len, cap, m, n, D, Pl, hcs, _, hl, hm, hmm, _, hx⟩
  · exact ⟨none, 0, [], hcs, Sl.nothing _ _, fun _ h => by cases h⟩
  · have hm' : m = cap := by simpa using hmm
    subst hm'
    have each : ∀ i : Fin len, ∃ x : EntV, EntOk x ∧ ∀ j, j < 8 → W.cell? (a.add (i.val * 8 + j)) = (entL x)[j]? := by
      intro i
      obtain ⟨cs', h1, h2⟩ := hx i.val (by have := i.isLt; omega)
      rw [co_ent] at h1
      obtain ⟨_, hlen, hcell⟩ := World.cells?_some h1
      obtain ⟨x, rfl, hok⟩ := reads_ent h2
      refine ⟨x, hok, fun j hj => ?_⟩
      have := hcell j hj
      rw [Go.Deep.add_add] at this
      exact this
    refine ⟨some a, m, List.ofFn fun i : Fin len => (each i).choose, by rw [List.length_ofFn]; exact hcs, ⟨?_, Nat.le_trans hm (by unfold maxLen; omega), (fun h => by cases h), ?_, fun ad had i hi j hj => ?_⟩, ?_⟩
    · rw [entR_len, List.length_ofFn]; exact hl
    · intro r hr
      obtain ⟨x, _, rfl⟩ := List.mem_map.1 hr
      rfl
    · obtain rfl := Option.some.inj had
      have hi' : i < len := by rw [entR_len, List.length_ofFn] at hi; exact hi
      have := (each ⟨i, hi'⟩).choose_spec.2 j hj
      rw [this]
      unfold entR
      simp
    · intro x hx
      obtain ⟨i, rfl⟩ := List.mem_ofFn.1 hx
      exact (each i).choose_spec.1
theorem co_ents : Tryz.prog.cellsOf 42 = 1 := by kernel_rfl
theorem co_st : Tryz.prog.cellsOf 44 = 49 := by kernel_rfl
theorem co_diff : Tryz.prog.cellsOf 46 = 52 := by kernel_rfl
theorem co_int : Tryz.prog.cellsOf 3 = 1 := by kernel_rfl

/-- A state of whatever length. -/
structure StIn (s : StV) : Prop where
  started : s.started < 4294967296
  base : BaseIn s.base
  tail : EntOk s.tail
  log : ∀ e ∈ s.log, EntOk e
theorem StIn.ok {s : StV} (h : StIn s) (hl : s.log.length ≤ 1000) : StOk s := ⟨h.started, h.base, h.tail, h.log, hl⟩
theorem reads_st {cs : List Value} (h : DataW.trod enc Tryz.prog W 0 (fun _ => true) true fuel 44 cs = some y) : ∃ s ao c, cs = stL s ao c ∧ StIn s ∧ Sl W ao c 8 (entR s.log) := by
  obtain ⟨xs, n, _, _, hl, hxl, hf⟩ := DataW.trod_struct Tryz.underlying44 h
  rw [co_st] at hl
  have hxl : xs.length = 4 := hxl
  have h0 : DataW.trod enc Tryz.prog W 0 (fun _ => true) true n 22 ((cs.drop 0).take (Tryz.prog.cellsOf 22)) = xs[0]? := hf 0 _ rfl
  have h1 : DataW.trod enc Tryz.prog W 0 (fun _ => true) true n 37 ((cs.drop 1).take (Tryz.prog.cellsOf 37)) = xs[1]? := hf 1 _ rfl
  have h2 : DataW.trod enc Tryz.prog W 0 (fun _ => true) true n 41 ((cs.drop 40).take (Tryz.prog.cellsOf 41)) = xs[2]? := hf 2 _ rfl
  have h3 : DataW.trod enc Tryz.prog W 0 (fun _ => true) true n 42 ((cs.drop 48).take (Tryz.prog.cellsOf 42)) = xs[3]? := hf 3 _ rfl
  rw [co_u32] at h0
  rw [co_base] at h1
  rw [co_ent] at h2
  rw [co_ents] at h3
  obtain ⟨y0, e0⟩ := some_of' h0 (by omega)
  obtain ⟨y1, e1⟩ := some_of' h1 (by omega)
  obtain ⟨y2, e2⟩ := some_of' h2 (by omega)
  obtain ⟨y3, e3⟩ := some_of' h3 (by omega)
  obtain ⟨x0, q0, _, w0⟩ := DataW.trod_int Tryz.underlying22 e0
  obtain ⟨b, q1, hb⟩ := reads_base e1
  obtain ⟨t, q2, ht⟩ := reads_ent e2
  obtain ⟨ao, c, l, q3, hS, ho⟩ := reads_ents e3
  have b0 := bounds_u32 w0
  obtain ⟨k0, rfl⟩ := Int.eq_ofNat_of_zero_le b0.1
  refine ⟨⟨k0, b, t, l⟩, ao, c, ?_, ⟨show k0 < 4294967296 by omega, hb.in9, ht, ho⟩, hS⟩
  have a0 := cut_at cs 0 1
  have a1 := cut_at cs 1 39
  have a2 := cut_at cs 40 8
  have a3 := cut_last cs 48 1 (by omega)
  have e : cs = (cs.drop 0).take 1 ++ ((cs.drop 1).take 39 ++ ((cs.drop 40).take 8 ++ (cs.drop 48).take 1)) := by
    rw [a3, ← a2, ← a1, ← a0]
    rfl
  rw [e, q0, q1, q2, q3]
  rfl
structure DiffIn (d : DiffV) : Prop where
  kind1 : -9223372036854775808 ≤ d.kind
  kind2 : d.kind ≤ 9223372036854775807
  fr : d.fr < 4294967296
  log : ∀ e ∈ d.log, EntOk e
  whole : StIn d.whole
theorem reads_diff {cs : List Value} (h : DataW.trod enc Tryz.prog W 0 (fun _ => true) true fuel 46 cs = some y) : ∃ d lo lc wo wc, cs = diffL d lo lc wo wc ∧ DiffIn d ∧ Sl W lo lc 8 (entR d.log) ∧ Sl W wo wc 8 (entR d.whole.log) := by
  obtain ⟨xs, n, _, _, hl, hxl, hf⟩ := DataW.trod_struct Tryz.underlying46 h
  rw [co_diff] at hl
  have hxl : xs.length = 4 := hxl
  have h0 : DataW.trod enc Tryz.prog W 0 (fun _ => true) true n 3 ((cs.drop 0).take (Tryz.prog.cellsOf 3)) = xs[0]? := hf 0 _ rfl
  have h1 : DataW.trod enc Tryz.prog W 0 (fun _ => true) true n 22 ((cs.drop 1).take (Tryz.prog.cellsOf 22)) = xs[1]? := hf 1 _ rfl
  have h2 : DataW.trod enc Tryz.prog W 0 (fun _ => true) true n 42 ((cs.drop 2).take (Tryz.prog.cellsOf 42)) = xs[2]? := hf 2 _ rfl
  have h3 : DataW.trod enc Tryz.prog W 0 (fun _ => true) true n 44 ((cs.drop 3).take (Tryz.prog.cellsOf 44)) = xs[3]? := hf 3 _ rfl
  rw [co_int] at h0
  rw [co_u32] at h1
  rw [co_ents] at h2
  rw [co_st] at h3
  obtain ⟨y0, e0⟩ := some_of' h0 (by omega)
  obtain ⟨y1, e1⟩ := some_of' h1 (by omega)
  obtain ⟨y2, e2⟩ := some_of' h2 (by omega)
  obtain ⟨y3, e3⟩ := some_of' h3 (by omega)
  obtain ⟨x0, q0, _, w0⟩ := DataW.trod_int Tryz.underlying3 e0
  obtain ⟨x1, q1, _, w1⟩ := DataW.trod_int Tryz.underlying22 e1
  obtain ⟨lo, lc, l, q2, hL, ho⟩ := reads_ents e2
  obtain ⟨s, wo, wc, q3, hs, hS⟩ := reads_st e3
  have b0 := bounds_i64 w0
  have b1 := bounds_u32 w1
  obtain ⟨k1, rfl⟩ := Int.eq_ofNat_of_zero_le b1.1
  refine ⟨⟨x0, k1, l, s⟩, lo, lc, wo, wc, ?_, ⟨b0.1, b0.2, show k1 < 4294967296 by omega, ho, hs⟩, hL, hS⟩
  have a0 := cut_at cs 0 1
  have a1 := cut_at cs 1 1
  have a2 := cut_at cs 2 1
  have a3 := cut_last cs 3 49 (by omega)
  have e : cs = (cs.drop 0).take 1 ++ ((cs.drop 1).take 1 ++ ((cs.drop 2).take 1 ++ (cs.drop 3).take 49)) := by
    rw [a3, ← a2, ← a1, ← a0]
    rfl
  rw [e, q0, q1, q2, q3]
  rfl
end
end Go.Proofs.YtecilienolabfaaGreatDoor
