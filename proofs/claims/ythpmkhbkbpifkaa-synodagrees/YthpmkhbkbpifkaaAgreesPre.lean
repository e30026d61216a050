/- Three proposers and three acceptors in memory; turns that come in. -/
import Derived.Test.YthpmkhbkbpifkaaAgreeAny
import Derived.Test.YthpmkhbkbpifkaaPaxos
import Derived.Test.YthpmkhbkbpifkaaSynOpen
namespace Go.Proofs.Ythpmkhbkbpifkaa
set_option linter.unusedSimpArgs false
set_option linter.unusedVariables false
set_option maxRecDepth 100000
open Go.ChangeShapes Go.WideShapes Go.ChangeAt Go.RowKit

structure TurnV where
  p : Nat
  a : Nat
  what : Nat
structure TurnOk (t : TurnV) : Prop where
  p : t.p < 256
  a : t.a < 256
  what : t.what < 256
def turnL (t : TurnV) : List Value := [.int .u8 t.p, .int .u8 t.a, .int .u8 t.what]
def turnR (l : List TurnV) : List (List Value) := l.map turnL
theorem cells_turn : Try.prog.cellsOf 51 = 3 := by kernel_rfl
theorem list3t {α : Type} (l : List α) (h : l.length = 3) : ∃ a b c, l = [a, b, c] := by
  match l, h with
  | [a, b, c], _ => exact ⟨a, b, c, rfl⟩
section
variable {H : Type} {enc : TypeId × Value → H} {W : World} {base : Nat} {spare : Nat → Bool} {held : Bool} {fuel : Nat} {y : DataW H × List MemPlace}
theorem reads_turn {cs : List Value} (h : DataW.trod enc Try.prog W base spare held fuel 51 cs = some y) : ∃ t : TurnV, cs = turnL t ∧ TurnOk t := by
  obtain ⟨xs, n, _, _, hl, hxl, hf⟩ := DataW.trod_struct Try.underlying51 h
  rw [cells_turn] at hl
  have hxl : xs.length = 3 := hxl
  have h0 : DataW.trod enc Try.prog W base spare held n 5 ((cs.drop 0).take (Try.prog.cellsOf 5)) = xs[0]? := hf 0 _ rfl
  have h1 : DataW.trod enc Try.prog W base spare held n 5 ((cs.drop 1).take (Try.prog.cellsOf 5)) = xs[1]? := hf 1 _ rfl
  have h2 : DataW.trod enc Try.prog W base spare held n 5 ((cs.drop 2).take (Try.prog.cellsOf 5)) = xs[2]? := hf 2 _ rfl
  rw [cells_u8] at h0 h1 h2
  obtain ⟨y0, e0⟩ := some_of h0 (by omega)
  obtain ⟨y1, e1⟩ := some_of h1 (by omega)
  obtain ⟨y2, e2⟩ := some_of h2 (by omega)
  obtain ⟨x0, q0, _, w0⟩ := DataW.trod_int Try.underlying5 e0
  obtain ⟨x1, q1, _, w1⟩ := DataW.trod_int Try.underlying5 e1
  obtain ⟨x2, q2, _, w2⟩ := DataW.trod_int Try.underlying5 e2
  obtain ⟨a0, a1, a2, rfl⟩ := list3t cs hl
  simp at q0 q1 q2
  subst q0 q1 q2
  have b0 := bounds_u8 w0
  have b1 := bounds_u8 w1
  have b2 := bounds_u8 w2
  obtain ⟨k0, rfl⟩ := Int.eq_ofNat_of_zero_le b0.1
  obtain ⟨k1, rfl⟩ := Int.eq_ofNat_of_zero_le b1.1
  obtain ⟨k2, rfl⟩ := Int.eq_ofNat_of_zero_le b2.1
  exact ⟨⟨k0, k1, k2⟩, rfl, ⟨show k0 < 256 by omega, show k1 < 256 by omega, show k2 < 256 by omega⟩⟩
theorem open_turns {v : Value} {d : DataW H} {p : List MemPlace} (ok : Value.okWide Try.prog W .any base 45 v) (h : DataW.Trod enc Try.prog W 0 (fun _ => true) true 45 v d p) :
    ∃ (ao : Option Addr) (c : Nat) (xs : List TurnV), v = .slice ao xs.length c ∧ Sl W ao c 3 (turnR xs) ∧ ∀ x ∈ xs, TurnOk x :=
  open_rows turnL TurnOk 3 Try.underlying45 cells_turn (fun _ _ _ h => reads_turn h) (fun _ => rfl) ok h
end
theorem turn_cell {w : World} {ad : Addr} {c : Nat} {l : List TurnV} (h : Sl w (some ad) c 3 (turnR l)) (i : Nat) (hi : i < l.length) (j : Nat) (v : Value) (hj : (turnL l[i])[j]? = some v) : w.cell? (ad.add (i * 3 + j)) = some v := by
  have hlt : j < 3 := (List.getElem?_eq_some_iff.1 hj).1
  have := h.at' ad rfl i (by rw [turnR, List.length_map]; exact hi) j hlt
  rw [this, ← hj]
  simp [turnR]
theorem turn_p {w : World} {ad : Addr} {c : Nat} {l : List TurnV} (h : Sl w (some ad) c 3 (turnR l)) (i : Nat) (hi : i < l.length) : w.cell? (ad.add (i * 3)) = some (.int .u8 l[i].p) := turn_cell h i hi 0 _ rfl
theorem turn_pos (A : Addr) (j : Nat) (h : 0 < j) : A.add j = ⟨A.block, A.off + j, none⟩ := by unfold Addr.add; rw [if_neg (by omega)]
theorem turn_a {w : World} {ad : Addr} {c : Nat} {l : List TurnV} (h : Sl w (some ad) c 3 (turnR l)) (i : Nat) (hi : i < l.length) : w.cell? ⟨(ad.add (i * 3)).block, (ad.add (i * 3)).off + 1, none⟩ = some (.int .u8 l[i].a) := by
  have := turn_cell h i hi 1 _ rfl
  rwa [← Go.Deep.add_add, turn_pos _ _ (by omega)] at this
theorem turn_w {w : World} {ad : Addr} {c : Nat} {l : List TurnV} (h : Sl w (some ad) c 3 (turnR l)) (i : Nat) (hi : i < l.length) : w.cell? ⟨(ad.add (i * 3)).block, (ad.add (i * 3)).off + 2, none⟩ = some (.int .u8 l[i].what) := by
  have := turn_cell h i hi 2 _ rfl
  rwa [← Go.Deep.add_add, turn_pos _ _ (by omega)] at this
theorem turn_le {w : World} {ao : Option Addr} {c : Nat} {l : List TurnV} (h : Sl w ao c 3 (turnR l)) : l.length ≤ c := by
  have := h.le
  rwa [turnR, List.length_map] at this

theorem ptra_size (p : Nat → Nat) : (Try.prog.info? 48).map (·.size) = some (ptr3 p).size := by show _ = some 3; kernel_rfl
def nil3 : Array Value := #[.pointer none, .pointer none, .pointer none]
theorem arrp_zero3 : (Try.prog.info? 46).map (·.zero) = some (some (.agg nil3)) := by kernel_rfl
theorem arra_zero3 : (Try.prog.info? 48).map (·.zero) = some (some (.agg nil3)) := by kernel_rfl

/-- Where three proposers and three acceptors lie. -/
structure Spots (w0 : World) (p a : Nat → Nat) : Prop where
  pl : ∀ i, i < 3 → w0.heap.size ≤ p i
  al : ∀ i, i < 3 → w0.heap.size ≤ a i
  pp : ∀ i j, i < 3 → j < 3 → i ≠ j → p i ≠ p j
  aa : ∀ i j, i < 3 → j < 3 → i ≠ j → a i ≠ a j
  pa : ∀ i j, i < 3 → j < 3 → p i ≠ a j
/-- What they are. -/
structure SysAt (w : World) (p a : Nat → Nat) (s : Sys) : Prop where
  pr : ∀ i, i < 3 → Pro w (p i) (s.pr i)
  ac : ∀ i, i < 3 → Has w (a i) 77 (accC (s.ac i))
  ok : ∀ i, i < 3 → AccOk (s.ac i)
theorem SysAt.later {w w' : World} {p a : Nat → Nat} {s : Sys} (h : SysAt w p a s) (k : Below w.heap.size w w') : SysAt w' p a s := ⟨fun i hi => (h.pr i hi).later k, fun i hi => (h.ac i hi).later k, h.ok⟩
theorem SysAt.drew {w : World} {p a : Nat → Nat} {s : Sys} (h : SysAt w p a s) : SysAt w.drew p a s := ⟨fun i hi => (h.pr i hi).drew, fun i hi => (h.ac i hi).drew, h.ok⟩
theorem SysAt.putP {w0 w w' : World} {p a : Nat → Nat} {s : Sys} (h : SysAt w p a s) (hs : Spots w0 p a) {k : Nat} (hk : k < 3) {v : ProV} (hv : Pro w' (p k) v) (hb : But (p k) w w') : SysAt w' p a (s.putP k v) := by
  refine ⟨fun i hi => ?_, fun i hi => hb.has (h.ac i hi) (Ne.symm (hs.pa k i hk hi)), h.ok⟩
  by_cases e : i = k
  · subst e
    rw [Sys.putP_at]
    exact hv
  · rw [Sys.putP_ne s e]
    exact (h.pr i hi).but hb (hs.pp i k hi hk e)
theorem SysAt.putA {w0 w w' : World} {p a : Nat → Nat} {s : Sys} (h : SysAt w p a s) (hs : Spots w0 p a) {j : Nat} (hj : j < 3) {A : AccV} (hA : Has w' (a j) 77 (accC A)) (ho : AccOk A) (hb : But (a j) w w') : SysAt w' p a (s.putA j A) := by
  refine ⟨fun i hi => (h.pr i hi).but hb (hs.pa i j hi hj), fun i hi => ?_, fun i hi => ?_⟩
  · by_cases e : i = j
    · subst e
      rw [Sys.putA_at]
      exact hA
    · rw [Sys.putA_ne s e]
      exact hb.has (h.ac i hi) (hs.aa i j hi hj e)
  · by_cases e : i = j
    · subst e
      rw [Sys.putA_at]
      exact ho
    · rw [Sys.putA_ne s e]
      exact h.ok i hi

/-- What was decided, where things are good. -/
theorem Good11.same3 {T : Nat} {x : Nat → IncV} {s : Sys} (h : Good11 T x s) (hx : ∀ i, i < 3 → IncOk (x i)) : ∃ D, IncOk D ∧ Same3 s.pr D (x 0) (x 1) (x 2) := by
  have hw : ∀ k, k < 3 → (s.pr k).hasD = true → (s.pr k).dec = x 0 ∨ (s.pr k).dec = x 1 ∨ (s.pr k).dec = x 2 := fun k hk hd => by
    obtain ⟨i, hi, e⟩ := h.wish hk hd
    match i, hi with
    | 0, _ => exact .inl e
    | 1, _ => exact .inr (.inl e)
    | 2, _ => exact .inr (.inr e)
  by_cases hd : ∃ k, k < 3 ∧ (s.pr k).hasD = true
  · obtain ⟨k, hk, hd⟩ := hd
    refine ⟨(s.pr k).dec, ?_, fun i hi hi2 => h.agree hi hk hi2 hd, fun i hi hi2 => hw k hk hd⟩
    obtain ⟨i, hi, e⟩ := h.wish hk hd
    rw [e]
    exact hx i hi
  · exact ⟨inc0, inc0_ok, fun i hi hi2 => absurd ⟨i, hi, hi2⟩ hd, fun i hi hi2 => absurd ⟨i, hi, hi2⟩ hd⟩
end Go.Proofs.Ythpmkhbkbpifkaa
