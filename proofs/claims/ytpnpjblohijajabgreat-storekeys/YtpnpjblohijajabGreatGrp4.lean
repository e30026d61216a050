/- Disk, StoreTo, joined. -/
import Derived.Test.YtpnpjblohijajabGreatGrp3
import Derived.Test.YtpnpjblohijajabGreatPackTools
namespace Go.Proofs.YtpnpjblohijajabGreat
section
set_option linter.unusedSimpArgs false
set_option linter.unusedVariables false
set_option maxRecDepth 100000
open Go.RowKit

theorem but_row {g : Nat} (w : World) (c : Array Value) : But g w (w.setRow g c) := by
  have := below_setRow (Below.refl 0 w) (Nat.zero_le g) c
  exact ⟨this.os, this.tape, this.output, this.size, fun k _ hk => setRow_other w g k c hk⟩
theorem but_cell {g : Nat} (w : World) (o : Nat) (v : Value) : But g w (w.setCell ⟨g, o, none⟩ v) := by
  have h := (Below.refl 0 w).setCell (p := ⟨g, o, none⟩) (Nat.zero_le _) v
  exact ⟨h.os, h.tape, h.output, h.size, fun k _ hk => Below.heap_setCell w ⟨g, o, none⟩ v k hk⟩
structure DskV where
  dat : List UInt8
  pend : PendL
  left : Nat
  off : Bool
def diskC (kb mb n : Nat) (st : Int) (left : Nat) (off : Bool) : Array Value := #[.slice (some ⟨kb, 0, none⟩) n n, .map (some mb), .int .i64 st, .int .i64 (left : Int), .bool off]
theorem diskC_2 (kb mb n : Nat) (st x : Int) (left : Nat) (off : Bool) : (diskC kb mb n st left off).setIfInBounds 2 (.int .i64 x) = diskC kb mb n x left off := rfl
theorem diskC_3 (kb mb n : Nat) (st : Int) (left l : Nat) (off : Bool) : (diskC kb mb n st left off).setIfInBounds 3 (.int .i64 (l : Int)) = diskC kb mb n st l off := rfl
theorem diskC_4 (kb mb n : Nat) (st : Int) (left : Nat) (off o : Bool) : (diskC kb mb n st left off).setIfInBounds 4 (.bool o) = diskC kb mb n st left o := rfl
structure DiskAt (w : World) (p kb mb n : Nat) (d : DskV) : Prop where
  disk : ∃ st : Int, Has w p 47 (diskC kb mb n st d.left d.off)
  dat : Has w kb 66 (Bs d.dat).toArray
  len : d.dat.length = 64 * n
  pend : PendAt w mb d.pend
  n0 : 1 ≤ n
  n1 : n ≤ 1000
  left : d.left ≤ 1000
  sect : ∀ x ∈ d.pend, x.1 < n ∧ x.2.length = 64
  apart : (d.pend.map (·.1)).Nodup
theorem has_apart {w : World} {g k : Nat} {t u : TypeId} {c e : Array Value} (h : Has w g t c) (h' : Has w k u e) (ht : t ≠ u) : g ≠ k := by
  rintro rfl
  unfold Has at h h'
  rw [h] at h'
  injection h' with h'
  injection h' with _ h2 _
  exact ht h2
theorem DiskAt.pk {w : World} {p kb mb n : Nat} {d : DskV} (h : DiskAt w p kb mb n d) : p ≠ kb := by
  obtain ⟨st, hX⟩ := h.disk
  exact has_apart hX h.dat (by decide)
theorem DiskAt.pm {w : World} {p kb mb n : Nat} {d : DskV} (h : DiskAt w p kb mb n d) : p ≠ mb := by
  obtain ⟨st, hX⟩ := h.disk
  exact hX.not_map h.pend
theorem DiskAt.km {w : World} {p kb mb n : Nat} {d : DskV} (h : DiskAt w p kb mb n d) : kb ≠ mb := h.dat.not_map h.pend
theorem DiskAt.later {w w' : World} {p kb mb n : Nat} {d : DskV} (h : DiskAt w p kb mb n d) (hb : Below w.heap.size w w') : DiskAt w' p kb mb n d := by
  obtain ⟨st, hX⟩ := h.disk
  exact ⟨⟨st, hX.later hb⟩, h.dat.later hb, h.len, h.pend.later hb, h.n0, h.n1, h.left, h.sect, h.apart⟩
/-- Whatever leaves the disk's blocks as they are. -/
theorem DiskAt.offs {w w' : World} {p kb mb n : Nat} {d : DskV} {F : Nat → Prop} (h : DiskAt w p kb mb n d) (k : OffF F w w') (h1 : ¬ F p) (h2 : ¬ F kb) (h3 : ¬ F mb) : DiskAt w' p kb mb n d := by
  obtain ⟨st, hX⟩ := h.disk
  exact ⟨⟨st, k.has hX h1⟩, k.has h.dat h2, h.len, h.pend.block (k.block _ h.pend.lt h3), h.n0, h.n1, h.left, h.sect, h.apart⟩
theorem DiskAt.drew {w : World} {p kb mb n : Nat} {d : DskV} (h : DiskAt w p kb mb n d) : DiskAt w.drew p kb mb n d := h.later (Below.refl _ _).drew
def errM (d : DskV) : Nat := if d.off = true then 131 else 0
/-- A step. -/
def stepM (d : DskV) : DskV := if d.left = 0 then d else ⟨d.dat, d.pend, d.left - 1, decide (d.left = 1)⟩
theorem stepM_dat (d : DskV) : (stepM d).dat = d.dat := by unfold stepM; split <;> rfl
theorem stepM_pend (d : DskV) : (stepM d).pend = d.pend := by unfold stepM; split <;> rfl
theorem DiskAt.but {w w' : World} {p kb mb n : Nat} {d : DskV} (h : DiskAt w p kb mb n d) (hb : But p w w') (l : Nat) (o : Bool) (hl : l ≤ 1000) (st : Int) (hX : Has w' p 47 (diskC kb mb n st l o)) : DiskAt w' p kb mb n ⟨d.dat, d.pend, l, o⟩ :=
  ⟨⟨st, hX⟩, hb.has h.dat (Ne.symm h.pk), h.len, h.pend.block (hb.block _ h.pend.lt (Ne.symm h.pm)), h.n0, h.n1, hl, h.sect, h.apart⟩
set_option maxHeartbeats 2000000 in
theorem step_any (p kb mb n : Nat) (d : DskV) (w : World) (h : DiskAt w p kb mb n d) :
    Calls Tryz.prog 120 #[.pointer (some ⟨p, 0, none⟩)] w fun e w' => e = .returned (.int .i64 (errM (stepM d) : Nat)) ∧ DiskAt w' p kb mb n (stepM d) ∧ But p w w' := by
  obtain ⟨st, hX⟩ := h.disk
  have hlb := h.left
  have c2 : w.cell? ⟨p, 2, none⟩ = some (.int .i64 st) := (hX.cell 2).trans rfl
  have c3 : w.cell? ⟨p, 3, none⟩ = some (.int .i64 (d.left : Int)) := (hX.cell 3).trans rfl
  have c4 : w.cell? ⟨p, 4, none⟩ = some (.bool d.off) := (hX.cell 4).trans rfl
  have f2 := hX.free 2
  have f3 := hX.free 3
  have f4 := hX.free 4
  have hfin : Hid (∀ (x : Int) (l : Nat) (o : Bool), l ≤ 1000 → DiskAt (((w.setCell ⟨p, 2, none⟩ (.int .i64 x)).setCell ⟨p, 3, none⟩ (.int .i64 (l : Int))).setCell ⟨p, 4, none⟩ (.bool o)) p kb mb n ⟨d.dat, d.pend, l, o⟩ ∧ But p w (((w.setCell ⟨p, 2, none⟩ (.int .i64 x)).setCell ⟨p, 3, none⟩ (.int .i64 (l : Int))).setCell ⟨p, 4, none⟩ (.bool o))) := fun x l o hl => by
    have hb : But p w (((w.setCell ⟨p, 2, none⟩ (.int .i64 x)).setCell ⟨p, 3, none⟩ (.int .i64 (l : Int))).setCell ⟨p, 4, none⟩ (.bool o)) := ((but_cell w 2 _).trans (but_cell _ 3 _)).trans (but_cell _ 4 _)
    have hY := ((hX.set 2 (.int .i64 x)).set 3 (.int .i64 (l : Int))).set 4 (.bool o)
    rw [diskC_2, diskC_3, diskC_4] at hY
    exact ⟨h.but hb l o hl x hY, hb⟩
  have hfin0 : Hid (∀ (x : Int), DiskAt (w.setCell ⟨p, 2, none⟩ (.int .i64 x)) p kb mb n d ∧ But p w (w.setCell ⟨p, 2, none⟩ (.int .i64 x))) := fun x => by
    have hb : But p w (w.setCell ⟨p, 2, none⟩ (.int .i64 x)) := but_cell w 2 _
    have hY := hX.set 2 (.int .i64 x)
    rw [diskC_2] at hY
    exact ⟨h.but hb d.left d.off hlb x hY, hb⟩
  clear hX h
  by_cases h0 : d.left = 0
  · have hD : Hid (stepM d = d) := by show _ = _; unfold stepM; rw [if_pos h0]
    rw [h0] at c3
    clear h0 hfin
    cases ho : d.off with
    | true =>
      rw [ho] at c4
      have ho' : Hid _ := ho
      clear ho
      go_enter Tryz.func120, Tryz.ntmps120
      go_wp2
      go_ret
      refine ⟨?_, ?_, (hfin0.out _).2⟩
      · rw [hD.out]; unfold errM; rw [ho'.out]; rfl
      · rw [hD.out]; exact (hfin0.out _).1
    | false =>
      rw [ho] at c4
      have ho' : Hid _ := ho
      clear ho
      go_enter Tryz.func120, Tryz.ntmps120
      go_wp2
      go_ret
      refine ⟨?_, ?_, (hfin0.out _).2⟩
      · rw [hD.out]; unfold errM; rw [ho'.out]; rfl
      · rw [hD.out]; exact (hfin0.out _).1
  · have hp : (0 : Int) < (d.left : Int) := by omega
    obtain ⟨l, hl⟩ : ∃ l, d.left = l + 1 := ⟨d.left - 1, by omega⟩
    have hD : Hid (stepM d = ⟨d.dat, d.pend, l, decide (l = 0)⟩) := by
      show _ = _
      unfold stepM
      rw [if_neg h0, hl]
      congr 1
      by_cases hl0 : l = 0
      · rw [hl0]; rfl
      · rw [decide_eq_false (by omega), decide_eq_false hl0]
    rw [hl] at c3 hp hlb
    clear h0 hfin0
    have hsub : IntKind.i64.wrap (((l + 1 : Nat) : Int) - 1) = (l : Int) := by rw [IntKind.wrap_i64]; omega
    by_cases hl0 : l = 0
    · subst hl0
      clear hl
      go_enter Tryz.func120, Tryz.ntmps120
      go_wp2
      go_ret
      rw [hD.out]
      exact ⟨rfl, (hfin.out _ 0 true (by omega))⟩
    · have hlI : ¬ (l : Int) = 0 := by omega
      have hlB : ((l : Int) == 0) = false := by simp; omega
      have hd0 : decide (l = 0) = false := decide_eq_false hl0
      clear hl
      have hl9 : l ≤ 1000 := by omega
      clear hl0
      go_enter Tryz.func120, Tryz.ntmps120
      go_wp2
      go_ret
      rw [hD.out, hd0]
      exact ⟨rfl, (hfin.out _ l false hl9)⟩
theorem dlen_any (p kb mb n : Nat) (d : DskV) (w : World) (h : DiskAt w p kb mb n d) :
    Calls Tryz.prog 14 #[.pointer (some ⟨p, 0, none⟩)] w fun e w' => e = .returned (.int .i64 (n : Nat)) ∧ w' = w := by
  obtain ⟨st, hX⟩ := h.disk
  have c0 : w.cell? ⟨p, 0, none⟩ = some (.slice (some ⟨kb, 0, none⟩) n n) := (hX.cell 0).trans rfl
  clear hX h
  go_enter Tryz.func14, Tryz.ntmps14
  go_wp2
  go_ret
  exact ⟨rfl, rfl⟩
theorem has_any (p kb mb n i : Nat) (d : DskV) (w : World) (h : DiskAt w p kb mb n d) (hi : i < n) :
    Calls Tryz.prog 117 #[.pointer (some ⟨p, 0, none⟩), .int .i64 (i : Nat)] w fun e w' => e = .returned (.bool true) ∧ w' = w := by
  obtain ⟨st, hX⟩ := h.disk
  have c0 : w.cell? ⟨p, 0, none⟩ = some (.slice (some ⟨kb, 0, none⟩) n n) := (hX.cell 0).trans rfl
  have h1 : (0 : Int) ≤ (i : Int) := by omega
  have h2 : (i : Int) < (n : Int) := by omega
  clear hX h
  go_enter Tryz.func117, Tryz.ntmps117
  go_wp2
  go_ret
  exact ⟨rfl, rfl⟩
/-- A sector as it was last written. -/
def writtenM (d : DskV) (i : Nat) : List UInt8 := (findP d.pend i).getD (sec d.dat i)
theorem sec_dat {w : World} {kb n i : Nat} {D : List UInt8} (h : Has w kb 66 (Bs D).toArray) (hD : D.length = 64 * n) (hi : i < n) : ∀ j v, (Bs (sec D i))[j]? = some v → w.cell? ((⟨kb, 64 * i, none⟩ : Addr).add j) = some v := by
  intro j v hv
  have hj : j < 64 := by
    have := (List.getElem?_eq_some_iff.1 hv).1
    rw [Bs_length, sec_length hD hi] at this
    exact this
  have e : (⟨kb, 64 * i, none⟩ : Addr).add j = ⟨kb, 64 * i + j, none⟩ := by rw [Addr.add_mid]
  rw [e, h.cell]
  unfold Bs at hv ⊢
  rw [List.getElem?_toArray]
  rw [List.getElem?_map] at hv ⊢
  rw [sec_at _ _ _ hj] at hv
  exact hv
theorem sec_size (s : List UInt8) (h : s.length = 64) : (Tryz.prog.info? 66).map (·.size) = some (secC s).size := by rw [secC_size, h]; kernel_rfl
end

section
set_option linter.unusedSimpArgs false
set_option linter.unusedVariables false
open Go.RowKit

theorem wpList_store_to {P : Program} {ops : Array Oper} {rest : List Oper} {o : Oper} {a : Act} {w : World} {Q : Exit → Act → World → Prop} (hw : Region.wanted o (yielded ops a.tmps) = true) (ty : TypeId) (x y : Operand) (ho : o.op = .store ty x y) (g : Nat) (hx : a.eval x = .pointer (some ⟨g, 0, none⟩))
    (c : Array Value) (hy : a.eval y = .agg c) (t : TypeId) (old : Array Value) (hi : (P.info? ty).map (·.size) = some c.size) (hs : old.size = c.size) (h1 : c.all (·.oneCell') = true)
    (hg : Has w g t old) (W : World) (hW : w.setRow g c = W) (h : wpList P ops Q rest (a.put o.dst undef) W) : wpList P ops Q (o :: rest) a w :=
  wpList_store_has hw ty x y ho g hx c hy t old hi hs h1 hg (hW ▸ h)
end
end Go.Proofs.YtpnpjblohijajabGreat
