/- ObjectsBytes: what its own row of bytes and the object come to, a round. -/
import Derived.Test.YtjajfeplgilejaaBoundsFacts
namespace Go.Proofs.Ytjajfeplgilejaa
set_option linter.unusedSimpArgs false
set_option linter.unusedVariables false
open Go.RowKit

/-- Noughts behind, up to m bytes. -/
def padS (d : List UInt8) (m : Nat) : List UInt8 := d ++ List.replicate (m - d.length) 0
theorem padS_len (d : List UInt8) (m : Nat) : (padS d m).length = max d.length m := by
  unfold padS
  rw [List.length_append, List.length_replicate]
  omega
theorem padS_step {d : List UInt8} {m : Nat} (h : d.length < m) : padS (d ++ [0]) m = padS d m := by
  unfold padS
  rw [List.append_assoc, List.length_append]
  congr 1
  show [(0 : UInt8)] ++ _ = _
  rw [show m - d.length = (m - (d.length + 1)) + 1 by omega, List.replicate_succ]
  rfl
theorem padS_end {d : List UInt8} {m : Nat} (h : m ≤ d.length) : padS d m = d := by
  unfold padS
  rw [show m - d.length = 0 by omega]
  simp
theorem pad_take (d : List UInt8) (p m : Nat) (h : p ≤ m) : (padS d m).take p = fitS p d := by
  unfold padS fitS
  rw [List.take_append, List.take_replicate]
  congr 2
  omega
theorem pad_drop (d : List UInt8) (m : Nat) : (padS d m).drop m = d.drop m := by
  unfold padS
  rw [List.drop_append, List.drop_replicate]
  rw [show m - d.length - (m - d.length) = 0 by omega]
  simp
/-- Padded, then copied into: as written. -/
theorem bytes_write (d s : List UInt8) (p : Nat) : (padS d (p + s.length)).take p ++ s ++ (padS d (p + s.length)).drop (p + s.length) = writeS d p s := by
  rw [pad_take _ _ _ (by omega), pad_drop]
  rfl
theorem bytes_trunc (d : List UInt8) (p : Nat) : (padS d p).take p = fitS p d := pad_take _ _ _ (Nat.le_refl _)

structure BytesAt (b : BaseV) (n : Nat) (th : Bool) (d : List UInt8) : Prop where
  there : (b.obj 2).there = th
  data : (b.obj 2).data = d
  last : (b.last 0).seq ≤ n

theorem bytes_zero : BytesAt base0 0 false [] := ⟨rfl, rfl, Nat.le_refl _⟩
theorem BytesAt.skip {b : BaseV} {n : Nat} {th : Bool} {d : List UInt8} (h : BytesAt b n th d) : BytesAt b (n + 1) th d := ⟨h.there, h.data, Nat.le_succ_of_le h.last⟩

section
variable {b : BaseV} {n : Nat} {th : Bool} {d : List UInt8} {o : OpV}
theorem BytesAt.do (h : BytesAt b n th d) (hc : o.client = 1) (hs : o.seq = n + 1) (ho : o.obj = 2) (hw : writesM o = true) :
    (doM b o).2.code = (changeM (b.obj 2) o).2 ∧ BytesAt (doM b o).1 (n + 1) (changeM (b.obj 2) o).1.there (changeM (b.obj 2) o).1.data := by
  have hn : ¬ (seenM b o).2 = true := by
    rw [seen_is hw, lastOf_at (0 : Fin 3) (by rw [hc]; rfl), hs]
    have := h.last
    omega
  have hd := do_at hw hn 2 (by rw [ho]; rfl) 0 (by rw [hc]; rfl)
  refine ⟨by rw [hd.1], by rw [hd.2.1], by rw [hd.2.1], ?_⟩
  rw [hd.2.2]
  exact Nat.le_of_eq hs

theorem BytesAt.write (h : BytesAt b n th d) (hc : o.client = 1) (hs : o.seq = n + 1) (ho : o.obj = 2) (hw : writesM o = true) (hk : o.kind = 1) (hp : o.pos + o.data.length ≤ 16) :
    BytesAt (doM b o).1 (n + 1) true (writeS d o.pos o.data) := by
  have hd := (h.do hc hs ho hw).2
  rw [change_1 hk, if_neg (by omega)] at hd
  exact h.data ▸ hd
theorem BytesAt.trunc (h : BytesAt b n true d) (hc : o.client = 1) (hs : o.seq = n + 1) (ho : o.obj = 2) (hw : writesM o = true) (hk : o.kind = 2) (hp : o.pos ≤ 16) :
    BytesAt (doM b o).1 (n + 1) true (fitS o.pos d) := by
  have hd := (h.do hc hs ho hw).2
  rw [change_2 hk, if_neg (by rw [h.there]; decide), if_neg (by omega)] at hd
  have e := h.there
  exact h.data ▸ e ▸ hd
theorem BytesAt.delete (h : BytesAt b n true d) (hc : o.client = 1) (hs : o.seq = n + 1) (ho : o.obj = 2) (hw : writesM o = true) (hk : o.kind = 4) :
    BytesAt (doM b o).1 (n + 1) false [] := by
  have hd := (h.do hc hs ho hw).2
  rw [change_4 hk, if_neg (by rw [h.there]; decide)] at hd
  exact hd
theorem BytesAt.not (h : BytesAt b n th d) (hc : o.client = 1) (hs : o.seq = n + 1) (ho : o.obj = 2) (hw : writesM o = true) (hk : o.kind = 1 ∨ o.kind = 2 ∨ o.kind = 4)
    (h1 : ¬ (o.kind = 1 ∧ o.pos + o.data.length ≤ 16)) (h2 : ¬ (o.kind = 2 ∧ th = true ∧ o.pos ≤ 16)) (h4 : ¬ (o.kind = 4 ∧ th = true)) :
    (doM b o).2.code ≠ 0 ∧ BytesAt (doM b o).1 (n + 1) th d := by
  have hd := h.do hc hs ho hw
  have hx : (changeM (b.obj 2) o).2 ≠ 0 := by
    rcases hk with hk | hk | hk
    · rw [change_1 hk, if_pos (by omega)]
      exact Nat.succ_ne_zero _
    · rw [change_2 hk]
      cases th with
      | false => rw [if_pos h.there]; exact Nat.succ_ne_zero _
      | true => rw [if_neg (by rw [h.there]; decide), if_pos (by have := h2; simp [hk] at this; exact this)]; exact Nat.succ_ne_zero _
    · rw [change_4 hk]
      cases th with
      | false => rw [if_pos h.there]; exact Nat.succ_ne_zero _
      | true => exact absurd ⟨hk, rfl⟩ h4
  rw [change_not hx, h.there, h.data] at hd
  exact ⟨by rw [hd.1]; exact hx, hd.2⟩
end
end Go.Proofs.Ytjajfeplgilejaa
