/- Rows of five bools; the map in which daemons are up or down by such a row. -/
import Derived.Test.YtlbokkbngbpmiaaPackMaps
import Derived.Test.YtlbokkbngbpmiaaPlaceWays
namespace Go.Proofs.Ytlbokkbngbpmiaa
set_option linter.unusedSimpArgs false
set_option linter.unusedVariables false
set_option maxRecDepth 100000
open Go.ChangeShapes Go.WideShapes Go.ChangeAt Go.RowKit

def boolL (f : Fin 5 → Bool) : List Value := [.bool (f 0), .bool (f 1), .bool (f 2), .bool (f 3), .bool (f 4)]
def boolC (f : Fin 5 → Bool) : Array Value := (boolL f).toArray

theorem boolC_at (f : Fin 5 → Bool) (i : Fin 5) : (boolC f)[i.val]? = some (.bool (f i)) := by
  unfold boolC
  rw [List.getElem?_toArray]
  match i with
  | 0 => rfl
  | 1 => rfl
  | 2 => rfl
  | 3 => rfl
  | 4 => rfl

theorem open_bools {H : Type} {enc : TypeId × Value → H} {W : World} {base : Nat} {v : Value} {d : DataW H} {p : List MemPlace}
    (ok : Value.okWide Try.prog W .any base 75 v) (h : DataW.Trod enc Try.prog W 0 (fun _ => true) true 75 v d p) : ∃ f : Fin 5 → Bool, v = .agg (boolC f) := by
  have ht : Try.prog.underlying 75 = some (.array 5 4) := Try.underlying75
  have hct : Try.prog.cellsOf 75 = 5 := by kernel_rfl
  obtain ⟨cs, rfl, hsz, _⟩ : ∃ cs, v = .agg cs ∧ cs.size = Try.prog.cellsOf 75 ∧ Row.okWide Try.prog W .any base 75 cs := by
    simpa [Value.okWide, ht] using ok
  rw [hct] at hsz
  obtain ⟨l⟩ := cs
  have hsz : l.length = 5 := hsz
  obtain ⟨fuel, hf⟩ := h
  obtain ⟨xs, m, _, _, _, hxl, hx⟩ := DataW.trod_array ht hf
  have hall : ∀ i (hi : i < 5), ∃ x : Bool, l[i]? = some (.bool x) := by
    intro i hi
    have h1 := hx i hi
    rw [cells_bool, Nat.mul_one, List.getElem?_eq_getElem (by omega)] at h1
    obtain ⟨x, ex, _⟩ := DataW.trod_bool Try.underlying4 h1
    have h2 : ((l.drop i).take 1) = [l[i]'(by omega)] := by
      rw [List.drop_eq_getElem_cons (by omega)]
      rfl
    have ex' : (l.drop i).take 1 = [.bool x] := ex
    rw [h2] at ex'
    refine ⟨x, ?_⟩
    rw [List.getElem?_eq_getElem (by omega)]
    exact congrArg some (List.cons.inj ex').1
  match l, hsz, hall with
  | [a, b, c, d, e], _, hall =>
    obtain ⟨x0, h0⟩ := hall 0 (by decide)
    obtain ⟨x1, h1⟩ := hall 1 (by decide)
    obtain ⟨x2, h2⟩ := hall 2 (by decide)
    obtain ⟨x3, h3⟩ := hall 3 (by decide)
    obtain ⟨x4, h4⟩ := hall 4 (by decide)
    replace h0 : a = .bool x0 := Option.some.inj h0
    replace h1 : b = .bool x1 := Option.some.inj h1
    replace h2 : c = .bool x2 := Option.some.inj h2
    replace h3 : d = .bool x3 := Option.some.inj h3
    replace h4 : e = .bool x4 := Option.some.inj h4
    refine ⟨fun i => match i with | 0 => x0 | 1 => x1 | 2 => x2 | 3 => x3 | 4 => x4, ?_⟩
    rw [h0, h1, h2, h3, h4]
    rfl

/-- The map whose first n daemons are up as told. -/
def upsM (m : MapV) (f : Fin 5 → Bool) (n : Nat) : MapV := ⟨m.epoch, fun j => if j.val < n then { m.osd j with up := f j } else m.osd j⟩

theorem upsM_0 (m : MapV) (f : Fin 5 → Bool) : upsM m f 0 = m := by
  unfold upsM
  simp

theorem upsM_wt (m : MapV) (f : Fin 5 → Bool) (n : Nat) (i : Fin 5) : ((upsM m f n).osd i).wt = (m.osd i).wt := by
  show (if i.val < n then { m.osd i with up := f i } else m.osd i).wt = _
  split <;> rfl

theorem upsM_host (m : MapV) (f : Fin 5 → Bool) (n : Nat) (i : Fin 5) : ((upsM m f n).osd i).host = (m.osd i).host := by
  show (if i.val < n then { m.osd i with up := f i } else m.osd i).host = _
  split <;> rfl

theorem upsM_up (m : MapV) (f : Fin 5 → Bool) (i : Fin 5) : ((upsM m f 5).osd i).up = f i := by
  show (if i.val < 5 then { m.osd i with up := f i } else m.osd i).up = _
  rw [if_pos i.isLt]

theorem upsM_step (m : MapV) (f : Fin 5 → Bool) (n : Nat) (h : n < 5) : (upsM m f n).put ⟨n, h⟩ { (upsM m f n).osd ⟨n, h⟩ with up := f ⟨n, h⟩ } = upsM m f (n + 1) := by
  unfold MapV.put upsM
  simp only
  congr 1
  funext j
  by_cases e : j = ⟨n, h⟩
  · subst e
    simp
  · have hne : j.val ≠ n := fun h' => e (Fin.ext h')
    rw [if_neg e]
    by_cases hj : j.val < n
    · rw [if_pos hj, if_pos (by omega)]
    · rw [if_neg hj, if_neg (by omega)]

theorem upsM_ok {m : MapV} (h : MapOk m) (f : Fin 5 → Bool) (n : Nat) : MapOk (upsM m f n) :=
  ⟨h.epoch, fun i => by rw [upsM_wt]; exact h.wt i, fun i => by rw [upsM_host]; exact h.host i⟩

theorem osdOk_congr {a b : OsdV} (hw : a.wt = b.wt) (hh : a.host = b.host) : osdOk a = osdOk b := by
  unfold osdOk
  rw [hw, hh]

theorem isM_ups (m : MapV) (f : Fin 5 → Bool) (n : Nat) : isM (upsM m f n) = isM m := by
  unfold isM
  rw [osdOk_congr (upsM_wt m f n 0) (upsM_host m f n 0), osdOk_congr (upsM_wt m f n 1) (upsM_host m f n 1), osdOk_congr (upsM_wt m f n 2) (upsM_host m f n 2), osdOk_congr (upsM_wt m f n 3) (upsM_host m f n 3), osdOk_congr (upsM_wt m f n 4) (upsM_host m f n 4)]
  rfl

theorem pick_ups (m : MapV) (f : Fin 5 → Bool) (n g : Nat) : pickM (upsM m f n) g = pickM m g :=
  pickM_congr (wtI_congr (upsM_wt m f n)) (hostI_congr (upsM_host m f n)) (isM_ups m f n) g

/-- A row of bools in its variable. -/
theorem bools_box (w : World) (f : Fin 5 → Bool) : Has (w.alloc (.cells (boolC f) 75)) w.heap.size 75 (boolC f) := Has.new _ _ _
end Go.Proofs.Ytlbokkbngbpmiaa
