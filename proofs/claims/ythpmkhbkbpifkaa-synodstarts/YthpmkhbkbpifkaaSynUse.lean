/- Package synod's contracts, as the laws take them: a proposer lies in one block. -/
import Derived.Test.YthpmkhbkbpifkaaSynPaid
import Derived.Test.YthpmkhbkbpifkaaSynKnown
import Derived.Test.YthpmkhbkbpifkaaHold
namespace Go.Proofs.Ythpmkhbkbpifkaa
set_option linter.unusedSimpArgs false
set_option linter.unusedVariables false
set_option maxRecDepth 100000
open Go.RowKit

def Pro (w : World) (p : Nat) (v : ProV) : Prop := (∃ c, Has w p 70 (lanC c) ∧ Rel c v) ∧ ProOk v

theorem Pro.lt {w : World} {p : Nat} {v : ProV} (h : Pro w p v) : p < w.heap.size := by
  obtain ⟨⟨c, hc, _⟩, _⟩ := h
  exact hc.lt
theorem Pro.ok {w : World} {p : Nat} {v : ProV} (h : Pro w p v) : ProOk v := h.2
theorem Pro.later {w w' : World} {p : Nat} {v : ProV} (h : Pro w p v) (k : Below w.heap.size w w') : Pro w' p v := by
  obtain ⟨⟨c, hc, hr⟩, ho⟩ := h
  exact ⟨⟨c, hc.later k, hr⟩, ho⟩
theorem Pro.drew {w : World} {p : Nat} {v : ProV} (h : Pro w p v) : Pro w.drew p v := by
  obtain ⟨⟨c, hc, hr⟩, ho⟩ := h
  exact ⟨⟨c, hc.drew, hr⟩, ho⟩
theorem Pro.but {w w' : World} {p q : Nat} {v : ProV} (h : Pro w p v) (k : But q w w') (hq : p ≠ q) : Pro w' p v := by
  obtain ⟨⟨c, hc, hr⟩, ho⟩ := h
  exact ⟨⟨c, k.has hc hq, hr⟩, ho⟩
theorem Pro.row_other {w : World} {p g : Nat} {v : ProV} (h : Pro w p v) (hg : p ≠ g) (c' : Array Value) : Pro (w.setRow g c') p v := by
  obtain ⟨⟨c, hc, hr⟩, ho⟩ := h
  exact ⟨⟨c, hc.row_other hg c', hr⟩, ho⟩
theorem but_off {p : Nat} {w w' : World} (h : OffF (fun k => k = p) w w') : But p w w' := ⟨h.os, h.tape, h.output, h.size, fun k hk hn => h.block k hk hn⟩
theorem Pro.is {w : World} {p : Nat} {v : ProV} (h : Pro w p v) : IsPro w p v (fun k => k = p) := ⟨h.1, h.2, rfl⟩

theorem known_any (w : World) : Calls Try.prog 8 #[] w fun e w' => e = .returned (.bool true) ∧ Below w.heap.size w w' := sknown_any pro_paid w
theorem pnew_any (k : Nat) (x : IncV) (w : World) (hk : k < 256) (hx : IncOk x) : Calls Try.prog 9 #[.int .u8 (k : Int), .agg (incC x)] w fun e w' => ∃ p, e = .returned (.pointer (some ⟨p, 0, none⟩)) ∧ w.heap.size ≤ p ∧ Pro w' p (newM k x) ∧ Below w.heap.size w w' := by
  refine (pro_paid.new k x w hk hx).mono ?_
  rintro e w' ⟨p, F, rfl, ⟨h1, h2, rfl⟩, hF, hb⟩
  exact ⟨p, rfl, hF p rfl, ⟨h1, h2⟩, hb⟩
theorem pstart_any (p : Nat) (v : ProV) (o : BalV) (w : World) (h : Pro w p v) (ho : BalOk o) : Calls Try.prog 10 #[.pointer (some ⟨p, 0, none⟩), .agg (balC o)] w fun e w' => e = .returned (.agg (balC (startM v o).b)) ∧ Pro w' p (startM v o) ∧ But p w w' := by
  refine (pro_paid.start o h.is ho).mono ?_
  rintro e w' ⟨rfl, ⟨F, ⟨h1, h2, rfl⟩, _⟩, hb⟩
  exact ⟨rfl, ⟨h1, h2⟩, but_off hb⟩
theorem ppromise_any (p : Nat) (v : ProV) (j : Nat) (b acc : BalV) (x : IncV) (g : Bool) (w : World) (h : Pro w p v) (hj : j < 256) (hb : BalOk b) (ha : BalOk acc) (hx : IncOk x) :
    Calls Try.prog 12 #[.pointer (some ⟨p, 0, none⟩), .int .u8 (j : Int), .agg (balC b), .agg (balC acc), .agg (incC x), .bool g] w fun e w' => e = .returned (.bool (promM v j b acc x g).2) ∧ Pro w' p (promM v j b acc x g).1 ∧ But p w w' := by
  refine (pro_paid.promise j b acc x g h.is hj hb ha hx).mono ?_
  rintro e w' ⟨rfl, ⟨F, ⟨h1, h2, rfl⟩, _⟩, hb⟩
  exact ⟨rfl, ⟨h1, h2⟩, but_off hb⟩
theorem paccepted_any (p : Nat) (v : ProV) (j : Nat) (b : BalV) (w : World) (h : Pro w p v) (hj : j < 256) (hb : BalOk b) :
    Calls Try.prog 14 #[.pointer (some ⟨p, 0, none⟩), .int .u8 (j : Int), .agg (balC b)] w fun e w' => e = .returned (.bool (accdM v j b).2) ∧ Pro w' p (accdM v j b).1 ∧ But p w w' := by
  refine (pro_paid.accepted j b h.is hj hb).mono ?_
  rintro e w' ⟨rfl, ⟨F, ⟨h1, h2, rfl⟩, _⟩, hb⟩
  exact ⟨rfl, ⟨h1, h2⟩, but_off hb⟩
theorem pvalue_any (p : Nat) (v : ProV) (w : World) (h : Pro w p v) : Calls Try.prog 16 #[.pointer (some ⟨p, 0, none⟩)] w fun e w' => ∃ y, e = .returned (.tuple #[.agg (incC y), .bool v.hasV]) ∧ IncOk y ∧ (v.hasV = true → y = v.value) ∧ Below w.heap.size w w' := pro_paid.value h.is
theorem pdecided_any (p : Nat) (v : ProV) (w : World) (h : Pro w p v) : Calls Try.prog 17 #[.pointer (some ⟨p, 0, none⟩)] w fun e w' => ∃ y, e = .returned (.tuple #[.agg (incC y), .bool v.hasD]) ∧ IncOk y ∧ (v.hasD = true → y = v.dec) ∧ Below w.heap.size w w' := pro_paid.decided h.is
theorem pballot_any (p : Nat) (v : ProV) (w : World) (h : Pro w p v) : Calls Try.prog 18 #[.pointer (some ⟨p, 0, none⟩)] w fun e w' => e = .returned (.agg (balC v.b)) ∧ Below w.heap.size w w' := pro_paid.ballot h.is

/-- The same, with what comes of it named. -/
theorem ppromise_is (p : Nat) (v : ProV) (j : Nat) (b acc : BalV) (x : IncV) (g : Bool) (w : World) {u : ProV} {r : Bool} (he : promM v j b acc x g = (u, r)) (h : Pro w p v) (hj : j < 256) (hb : BalOk b) (ha : BalOk acc) (hx : IncOk x) :
    Calls Try.prog 12 #[.pointer (some ⟨p, 0, none⟩), .int .u8 (j : Int), .agg (balC b), .agg (balC acc), .agg (incC x), .bool g] w fun e w' => e = .returned (.bool r) ∧ Pro w' p u ∧ But p w w' := by
  have hk := ppromise_any p v j b acc x g w h hj hb ha hx
  rw [he] at hk
  exact hk
theorem paccepted_is (p : Nat) (v : ProV) (j : Nat) (b : BalV) (w : World) {u : ProV} {r : Bool} (he : accdM v j b = (u, r)) (h : Pro w p v) (hj : j < 256) (hb : BalOk b) :
    Calls Try.prog 14 #[.pointer (some ⟨p, 0, none⟩), .int .u8 (j : Int), .agg (balC b)] w fun e w' => e = .returned (.bool r) ∧ Pro w' p u ∧ But p w w' := by
  have hk := paccepted_any p v j b w h hj hb
  rw [he] at hk
  exact hk
section kinds
variable {P : Program} {ops : Array Oper} {rest : List Oper} {d : Option Tmp} {t : TypeId} {p : String} {af : Array Edge} {gd : Option (Nat × Bool)} {a : Act} {w : World} {Q : Exit → Act → World → Prop}
/-- An arm lets itself in at one kind of operation alone. -/
theorem at_bin {b : BinOp} {u u' : TypeId} {x y : Operand} (h : wpList P ops Q (⟨d, .binOp b u x y u', t, p, af, gd⟩ :: rest) a w) : wpList P ops Q (⟨d, .binOp b u x y u', t, p, af, gd⟩ :: rest) a w := h
theorem at_bld {u : TypeId} {l : Array (Nat × Operand)} (h : wpList P ops Q (⟨d, .build u l, t, p, af, gd⟩ :: rest) a w) : wpList P ops Q (⟨d, .build u l, t, p, af, gd⟩ :: rest) a w := h
theorem at_sto {u : TypeId} {x y : Operand} (h : wpList P ops Q (⟨d, .store u x y, t, p, af, gd⟩ :: rest) a w) : wpList P ops Q (⟨d, .store u x y, t, p, af, gd⟩ :: rest) a w := h
theorem at_loa {u : TypeId} {x : Operand} (h : wpList P ops Q (⟨d, .load u x, t, p, af, gd⟩ :: rest) a w) : wpList P ops Q (⟨d, .load u x, t, p, af, gd⟩ :: rest) a w := h
theorem at_all {u : TypeId} (h : wpList P ops Q (⟨d, .alloc u, t, p, af, gd⟩ :: rest) a w) : wpList P ops Q (⟨d, .alloc u, t, p, af, gd⟩ :: rest) a w := h
/-- An arm lets itself in at one guard alone. -/
theorem at_gr {op : Op} (n : Nat) (b : Bool) (h : wpList P ops Q (⟨d, op, t, p, af, some (n, b)⟩ :: rest) a w) : wpList P ops Q (⟨d, op, t, p, af, some (n, b)⟩ :: rest) a w := h
theorem at_g0 {op : Op} (h : wpList P ops Q (⟨d, op, t, p, af, none⟩ :: rest) a w) : wpList P ops Q (⟨d, op, t, p, af, none⟩ :: rest) a w := h
end kinds
section builds
variable {ops : Array Oper} {rest : List Oper} {o : Oper} {a : Act} {w : World} {Q : Exit → Act → World → Prop}
theorem build_bal2 (n k : Nat) (hw : Region.wanted o (yielded ops a.tmps) = true) (x y : Operand) (ho : o.op = .build 31 #[(0, x), (1, y)]) (hx : a.eval x = .int .u32 (n : Int)) (hy : a.eval y = .int .u8 (k : Int))
    (h : wpList Try.prog ops Q rest (a.put o.dst (.agg (balC ⟨n, k⟩))) w) : wpList Try.prog ops Q (o :: rest) a w :=
  wpList_build_two hw 31 0 1 x y ho _ _ hx hy _ (bal_built2 n k) h
theorem build_bal1 (n : Nat) (hw : Region.wanted o (yielded ops a.tmps) = true) (x : Operand) (ho : o.op = .build 31 #[(0, x)]) (hx : a.eval x = .int .u32 (n : Int))
    (h : wpList Try.prog ops Q rest (a.put o.dst (.agg (balC ⟨n, 0⟩))) w) : wpList Try.prog ops Q (o :: rest) a w :=
  wpList_build_one hw 31 0 x ho _ hx _ (bal_k1 n) h
theorem bin_inc_same (y : IncV) (hy : IncOk y) (hw : Region.wanted o (yielded ops a.tmps) = true) (x z : Operand) (ty' : TypeId) (ho : o.op = .binOp .eql 23 x z ty') (hx : a.eval x = .agg (incC y)) (hz : a.eval z = .agg (incC y))
    (h : wpList Try.prog ops Q rest (a.put o.dst (.bool true)) w) : wpList Try.prog ops Q (o :: rest) a w :=
  bin_inc y y hy hy hw x z ty' ho hx hz (by rw [(sameInc_is y y).2 rfl]; exact h)
end builds
theorem run_add_n8 {P : Program} {o : Oper} {ev : Operand → Value} (ty ty' : TypeId) (x y : Operand) (ho : o.op = .binOp .add ty x y ty') (n m k : Nat) (hx : ev x = .int .u8 (n : Int)) (hy : ev y = .int .u8 (m : Int)) (hk : n + m = k) (hl : k < 256) (w : World) :
    (execOp ev o).run P w = .ok (.value (.int .u8 (k : Int))) w := by
  subst hk
  have h4 : IntKind.u8.wrap ((n : Int) + (m : Int)) = ((n + m : Nat) : Int) := by
    simp [IntKind.wrap, IntKind.bits, IntKind.signed]
    omega
  unfold execOp
  simp only [ho, hx, hy]
  simp [Sem.run_bind, go_sem, h4]
end Go.Proofs.Ythpmkhbkbpifkaa
