/- Rows of intervals of one's own that grow. -/
import Derived.Test.YtlbokkbngbpmiaaOff
import Derived.Test.YtlbokkbngbpmiaaHistMath
import Derived.Test.YtlbokkbngbpmiaaPackMaps
import Derived.Test.YtlbokkbngbpmiaaPackTools
import Derived.Maps.AppendAt
namespace Go.Proofs.Ytlbokkbngbpmiaa
set_option linter.unusedSimpArgs false
set_option linter.unusedVariables false
set_option maxRecDepth 100000
open Go.RowKit

theorem Try.infoIv : (Try.prog.info? 38).map (fun i => (i.zero, i.size, i.bytes)) = some (some (.agg #[.int .u32 0, .slice none 0 0]), 2, 32) := by kernel_rfl

/-- An interval, and where its list lies. -/
structure IvE where
  s : Nat
  ao : Option Addr
  c : Nat
  l : List Int

def cellsI (v : IvE) : List Value := [.int .u32 (v.s : Int), .slice v.ao v.l.length v.c]
def rowsI (vs : List IvE) : List (List Value) := vs.map cellsI
def ivOf (vs : List IvE) : List (Nat × List Int) := vs.map fun v => (v.s, v.l)

theorem ivOf_len (vs : List IvE) : (ivOf vs).length = vs.length := by unfold ivOf; rw [List.length_map]
theorem ivOf_snoc (vs : List IvE) (x : IvE) : ivOf (vs ++ [x]) = ivOf vs ++ [(x.s, x.l)] := by unfold ivOf; rw [List.map_append]; rfl
theorem rowsI_len (vs : List IvE) : (rowsI vs).length = vs.length := by unfold rowsI; rw [List.length_map]
theorem rowsI_each (vs : List IvE) : ∀ r ∈ rowsI vs, r.length = 2 := by
  intro r hr
  unfold rowsI at hr
  obtain ⟨x, _, rfl⟩ := List.mem_map.1 hr
  rfl
theorem rowsI_snoc (vs : List IvE) (x : IvE) : (rowsI (vs ++ [x])).flatten = (rowsI vs).flatten ++ cellsI x := by
  unfold rowsI
  rw [List.map_append, List.flatten_append]
  simp

theorem Ix.grown {w w' : World} {row : Option Nat} {ao : Option Addr} {c : Nat} {xs : List Int} (h : Ix w ao c xs) (hg : w.grownBy w' row) (hn : 0 < xs.length → ∀ ad, ao = some ad → row ≠ some ad.block) : Ix w' ao c xs := by
  refine ⟨h.le, h.cap, h.nil, fun ad had j hj => ?_⟩
  have hc := h.at' ad had j hj
  have hlt := World.block_lt_of_cell? w _ hc
  have hbl : (ad.add j).block = ad.block := by unfold Addr.add; split <;> rfl
  rw [World.cell?_of_block (w := w) (hg.block _ hlt (by rw [hbl]; exact (hn (by omega) ad had).symm))]
  exact hc

theorem Ix.lt {w : World} {ad : Addr} {c : Nat} {xs : List Int} (h : Ix w (some ad) c xs) (h0 : 0 < xs.length) : ad.block < w.heap.size := by
  have hc := h.at' ad rfl 0 h0
  have hlt := World.block_lt_of_cell? w _ hc
  have hbl : (ad.add 0).block = ad.block := by unfold Addr.add; split <;> rfl
  rw [hbl] at hlt
  exact hlt

structure IvOwn (w : World) (base : Nat) (v : Value) (vs : List IvE) : Prop where
  own : w.ownsRow base 38 2 v vs.length (rowsI vs).flatten
  ix : ∀ x ∈ vs, Ix w x.ao x.c x.l
  apart : ∀ x ∈ vs, 0 < x.l.length → ∀ ad, x.ao = some ad → v.ownBlock ≠ some ad.block

theorem IvOwn.nil (w : World) (base : Nat) : IvOwn w base (.slice none 0 0) [] := ⟨World.ownsRow_nil _ _ _ _, (fun x h => by cases h), (fun x h => by cases h)⟩

theorem grown_of {w w' : World} (h : Below w.heap.size w w') : w.grownBy w' none := ⟨h.os, h.tape, h.output, h.size, fun k hk _ => h.block k hk⟩

theorem IvOwn.later {w w' : World} {base : Nat} {v : Value} {vs : List IvE} (h : IvOwn w base v vs) (hb : Below w.heap.size w w') : IvOwn w' base v vs :=
  ⟨h.own.kept (grown_of hb) (by simp; exact Classical.em _), fun x hx => (h.ix x hx).later hb, h.apart⟩

theorem IvOwn.drewN {w : World} {base : Nat} {v : Value} {vs : List IvE} (h : IvOwn w base v vs) (n : Nat) : IvOwn (w.drewN n) base v vs :=
  ⟨h.own, fun x hx => (h.ix x hx).drewN n, h.apart⟩

theorem IvOwn.iv {w : World} {base : Nat} {v : Value} {vs : List IvE} (h : IvOwn w base v vs) : ∃ ao c, v = .slice ao vs.length c ∧ Iv w ao c (ivOf vs) := by
  rcases h.own.2 with ⟨hv, h0⟩ | ⟨g, cap, cur, hv, hg, hc, hle, hm, hcur⟩
  · have : vs = [] := List.eq_nil_of_length_eq_zero (by omega)
    subst this
    exact ⟨none, 0, hv, Iv.nothing _⟩
  · refine ⟨some ⟨g, 0, none⟩, cap, hv, ⟨by rw [ivOf_len]; omega, Nat.le_trans hm (by unfold maxLen; omega), (fun h => by cases h), fun ad had i hi => ?_⟩⟩
    obtain rfl := Option.some.inj had
    rw [ivOf_len] at hi
    have hi' : i < (rowsI vs).length := by rw [rowsI_len]; exact hi
    have f0 := flatten_at (rowsI vs) (rowsI_each vs) i hi' 0 (by decide)
    have f1 := flatten_at (rowsI vs) (rowsI_each vs) i hi' 1 (by decide)
    have e : (rowsI vs)[i] = cellsI vs[i] := by simp [rowsI]
    have e2 : (ivOf vs)[i]'(by rw [ivOf_len]; exact hi) = (vs[i].s, vs[i].l) := by simp [ivOf]
    rw [e] at f0 f1
    rw [Nat.add_zero] at f0
    rw [e2]
    refine ⟨h.own.cells (g := g) (by rw [hv]; rfl) _ _ (by rw [f0]; rfl), vs[i].ao, vs[i].c, h.own.cells (g := g) (by rw [hv]; rfl) _ _ (by rw [f1]; rfl), h.ix _ (List.getElem_mem hi)⟩

theorem IvOwn.snoc {w w' : World} {base n : Nat} {v v' : Value} {vs : List IvE} {x : IvE} {o : Obj} {row : List Value} (h : IvOwn w base v vs) (hx : Ix w x.ao x.c x.l) (ha : 0 < x.l.length → ∀ ad, x.ao = some ad → v.ownBlock ≠ some ad.block)
    (hown : w'.ownsRow base 38 2 v' n row) (hn : n = vs.length + 1) (hr : row = (rowsI vs).flatten ++ cellsI x) (hg : (w.alloc o).grownBy w' v.ownBlock) (hat : v'.ownBlock = v.ownBlock ∨ v'.ownBlock = some (w.heap.size + 1)) : IvOwn w' base v' (vs ++ [x]) := by
  have hb : Below w.heap.size w (w.alloc o) := (Below.refl _ _).alloc (Nat.le_refl _) _
  have all : ∀ y ∈ vs ++ [x], Ix w y.ao y.c y.l ∧ (0 < y.l.length → ∀ ad, y.ao = some ad → v.ownBlock ≠ some ad.block) := by
    intro y hy
    rcases List.mem_append.1 hy with hy | hy
    · exact ⟨h.ix y hy, h.apart y hy⟩
    · obtain rfl := List.mem_singleton.1 hy
      exact ⟨hx, ha⟩
  refine ⟨?_, fun y hy => ((all y hy).1.later hb).grown hg (all y hy).2, fun y hy h0 ad had => ?_⟩
  · rw [rowsI_snoc, List.length_append, ← hr]
    subst hn
    exact hown
  · rcases hat with e | e
    · rw [e]; exact (all y hy).2 h0 ad had
    · have hy1 := (all y hy).1
      rw [had] at hy1
      have := hy1.lt h0
      rw [e]
      intro e2
      have e3 := Option.some.inj e2
      omega

theorem Has.grown {w w' : World} {row : Option Nat} {g : Nat} {t : TypeId} {c : Array Value} (h : Has w g t c) (o : Obj) (hg : (w.alloc o).grownBy w' row) (hn : row ≠ some g) : Has w' g t c :=
  (hg.block g (h.alloc o).lt (Ne.symm hn)).trans (h.alloc o)

/-- Neither the row nor its lists lie in block g. -/
def FarI (g : Nat) (v : Value) (vs : List IvE) : Prop := (∀ k, v.ownBlock = some k → k ≠ g) ∧ ∀ x ∈ vs, 0 < x.l.length → ∀ ad, x.ao = some ad → ad.block ≠ g

theorem FarI.nil (g : Nat) : FarI g (.slice none 0 0) [] := ⟨(fun k hk => by cases hk), (fun x h => by cases h)⟩

theorem FarI.snoc {g n : Nat} {v v' : Value} {vs : List IvE} {x : IvE} (h : FarI g v vs) (hat : v'.ownBlock = v.ownBlock ∨ v'.ownBlock = some (n + 1)) (hg : g < n) (hx : ∀ ad, x.ao = some ad → g < ad.block) : FarI g v' (vs ++ [x]) := by
  refine ⟨fun k hk => ?_, fun y hy h0 ad had => ?_⟩
  · rcases hat with e | e
    · exact h.1 k (e ▸ hk)
    · rw [hk] at e
      have := Option.some.inj e
      omega
  · rcases List.mem_append.1 hy with hy | hy
    · exact h.2 y hy h0 ad had
    · obtain rfl := List.mem_singleton.1 hy
      have := hx ad had
      omega

theorem IvOwn.setRow {w : World} {base g : Nat} {v : Value} {vs : List IvE} (h : IvOwn w base v vs) (hf : FarI g v vs) (c : Array Value) : IvOwn (w.setRow g c) base v vs := by
  have hg : w.grownBy (w.setRow g c) (some g) := ⟨rfl, rfl, rfl, by simp [World.setRow], fun k hk hn => setRow_other w g k c (fun e => hn (by rw [e]))⟩
  refine ⟨h.own.kept hg (.inr fun e => hf.1 g e rfl), fun x hx => (h.ix x hx).grown hg (fun h0 ad had e => hf.2 x hx h0 ad had (Option.some.inj e).symm), h.apart⟩

theorem newI (w : World) (t : TypeId) (x : IvE) : ∀ j u, (cellsI x)[j]? = some u → (w.alloc (.cells #[.int .u32 (x.s : Int), .slice x.ao x.l.length x.c] t)).cell? ((⟨w.heap.size, 0, none⟩ : Addr).add j) = some u := by
  intro j u hj
  have h := (Has.new w t #[.int .u32 (x.s : Int), .slice x.ao x.l.length x.c]).cell j
  rw [Addr.add_mid, Nat.zero_add, h]
  simpa [cellsI] using hj

theorem oneI (x : IvE) : ∀ u ∈ cellsI x, u.oneCell' = true := by
  intro u hu
  simp [cellsI] at hu
  rcases hu with rfl | rfl <;> rfl

/-- The intervals of the epochs ahead of an epoch. -/
def ivPre (xs : List IncV) (g : Nat) : Nat → List (Nat × List Int)
  | 0 => []
  | k + 1 => ivTo xs g k

theorem ivPre_1 (xs : List IncV) (g : Nat) : ivPre xs g 1 = [(1, actH xs 0 g)] := rfl
theorem ivPre_same {xs : List IncV} {g n : Nat} (h : actH xs n g = actH xs (n + 1) g) : ivPre xs g (n + 2) = ivPre xs g (n + 1) := ivTo_same h
theorem ivPre_new {xs : List IncV} {g n : Nat} (h : ¬ actH xs n g = actH xs (n + 1) g) : ivPre xs g (n + 2) = ivPre xs g (n + 1) ++ [(n + 2, actH xs (n + 1) g)] := ivTo_new h
theorem ivPre_last (xs : List IncV) (g n : Nat) : ∃ l s, ivPre xs g (n + 1) = l ++ [(s, actH xs n g)] := by
  obtain ⟨l, s, h, _, _⟩ := ivTo_last xs g n
  exact ⟨l, s, h⟩
theorem ivPre_len (xs : List IncV) (g : Nat) : ∀ n, (ivPre xs g n).length ≤ n
  | 0 => Nat.le_refl _
  | n + 1 => ivTo_len xs g n

theorem fld_add (ad : Addr) (n : Nat) : ad.add (n + 1) = ⟨(ad.add n).block, (ad.add n).off + 1, none⟩ := by
  unfold Addr.add
  by_cases h : n = 0
  · subst h; simp
  · simp [h, Nat.add_assoc]

/-- The last one's list. -/
theorem iv_end {w : World} {ao : Option Addr} {c : Nat} {l : List (Nat × List Int)} {s : Nat} {a : List Int} (h : Iv w ao c (l ++ [(s, a)])) :
    ∃ ad, ao = some ad ∧ w.cell? (ad.add (l.length * 2)) = some (.int .u32 (s : Nat)) ∧ ∃ bo d, w.cell? ⟨(ad.add (l.length * 2)).block, (ad.add (l.length * 2)).off + 1, none⟩ = some (.slice bo a.length d) ∧ Ix w bo d a := by
  have hl : l.length < (l ++ [(s, a)]).length := by simp
  have hle := h.le
  cases ao with
  | none => have := h.nil rfl; omega
  | some ad =>
    have h1 := h.at' ad rfl l.length hl
    have he : (l ++ [(s, a)])[l.length] = (s, a) := by simp
    rw [he] at h1
    refine ⟨ad, rfl, h1.1, ?_⟩
    have e := fld_add ad (l.length * 2)
    rw [e] at h1
    exact h1.2
end Go.Proofs.Ytlbokkbngbpmiaa
