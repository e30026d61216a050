/- JnlAll, joined. -/
import Derived.Test.YtpnpjblohijajabGreatGrp23
import Derived.Test.YtpnpjblohijajabGreatGrp24
namespace Go.Proofs.YtpnpjblohijajabGreat
section
set_option linter.unusedSimpArgs false
set_option linter.unusedVariables false
set_option maxRecDepth 100000
open Go.RowKit Go.MapKept

/-- A journal's cells. -/
def jnlC (p : Nat) (h : HdV) (lo : Option Addr) (n c : Nat) (br : Bool) : Array Value := #[.pointer (some ⟨p, 0, none⟩), .int .u64 (h.num : Int), .int .i64 (h.half : Int), .int .i64 (h.len : Int), .int .u64 (h.sum : Int), .slice lo n c, .bool br]
theorem jnl_size (p : Nat) (h : HdV) (lo : Option Addr) (n c : Nat) (br : Bool) : (Tryz.prog.info? 75).map (·.size) = some (jnlC p h lo n c br).size := by show _ = some 7; kernel_rfl
theorem jbroken_any (j p : Nat) (h : HdV) (lo : Option Addr) (n c : Nat) (br : Bool) (w : World) (hJ : Has w j 75 (jnlC p h lo n c br)) :
    Calls Tryz.prog 30 #[.pointer (some ⟨j, 0, none⟩)] w fun e w' => e = .returned (.bool br) ∧ w' = w := by
  have c6 : w.cell? ⟨j, 6, none⟩ = some (.bool br) := (hJ.cell 6).trans rfl
  clear hJ
  go_enter Tryz.func30, Tryz.ntmps30
  go_wp2
  go_ret
  exact ⟨rfl, rfl⟩
theorem wpList_appS (w : World) {ops : Array Oper} {rest : List Oper} {o : Oper} {a : Act} {Q : Exit → Act → World → Prop} (hgd : o.guard = none) (s x : Operand)
    (ho : o.op = Op.call { callee := Callee.builtin Builtin.append, args := #[s, x], argTypes := #[22, 22] })
    (base : Nat) (v : Value) (n : Nat) (l : List (List UInt8)) (hs : a.eval s = v) (ad : Addr) (k c : Nat) (m : List (List UInt8)) (hx : a.eval x = .slice (some ad) k c) (hv : w.ownsRow base 9 1 v n (SsV l)) (h : Strs w (some ad) c m) (hk : k = m.length) (hl : n + k ≤ 1000000000) (hbase : base ≤ w.heap.size)
    (hK : ∀ ao' c' w', w'.ownsRow base 9 1 (.slice ao' (n + k) c') (n + k) (SsV (l ++ m)) → w.grownBy w' v.ownBlock → Below base w w' → wpList Tryz.prog ops Q rest (a.put o.dst (.slice ao' (n + k) c')) w') :
    wpList Tryz.prog ops Q (o :: rest) a w := by
  refine wpList_plain hgd fun K hK' => ?_
  obtain ⟨v', w', hr, hown, hgr⟩ := run_appS w o.type base v n l hv ad k c m h hk hl hbase
  obtain ⟨_, ao', c', rfl, _, _⟩ := strs_own hown
  have hb : Below base w w' := (Below.refl _ _).grown hgr hbase (fun q hq => (hv.lt q hq).1)
  unfold Oper.wp
  simp [execOp, ho, resolve, invoke, builtin, hs, hx, hr, Result.andThen]
  exact hK' _ _ (hK ao' c' w' hown hgr hb)
theorem own_emptyS (w : World) : (w.alloc (.cells #[] 9)).ownsRow w.heap.size 9 1 (.slice (some ⟨w.heap.size, 0, none⟩) 0 0) 0 (SsV []) :=
  ⟨rfl, .inr ⟨w.heap.size, 0, #[], rfl, Nat.le_refl _, (Go.MapKept.heap_alloc w _).1, Nat.le_refl _, by decide, rfl, rfl⟩⟩
/-- slices.Clone of records. -/
theorem clone_any (ao : Option Addr) (c : Nat) (l : List (List UInt8)) (w : World) (h : Strs w ao c l) (hl : l.length ≤ 1000000) :
    Calls Tryz.prog 83 #[.slice ao l.length c] w fun e w' => ∃ bo bc, e = .returned (.slice bo l.length bc) ∧ w'.ownsRow w.heap.size 9 1 (.slice bo l.length bc) l.length (SsV l) ∧ Below w.heap.size w w' := by
  have hle := h.le
  have hcap := h.cap
  have hq0 : ∀ (w : World), (binOp .eql 22 (.slice none 0 0) (.slice none 0 0)).run Tryz.prog w = .ok (.bool true) w := fun _ => by kernel_rfl
  have hq1 : ∀ (ad : Addr) (n c : Nat) (w : World), (binOp .eql 22 (.slice (some ad) n c) (.slice none 0 0)).run Tryz.prog w = .ok (.bool false) w := fun _ _ _ _ => by kernel_rfl
  obtain ⟨L, hL⟩ : ∃ L, l.length = L := ⟨_, rfl⟩
  rw [hL] at hle hl ⊢
  have hL' : Hid (l.length = L) := hL
  cases ao with
  | none =>
    have h0 := h.nil rfl
    subst h0
    have hL0 : L = 0 := by omega
    subst hL0
    have hl0 : Hid (l = []) := List.eq_nil_of_length_eq_zero hL
    clear h hL
    go_enter Tryz.func83, Tryz.ntmps83
    go_wp2
    go_ret
    rw [hl0.out]
    exact ⟨none, 0, rfl, own_nilS _ _, Below.refl _ _⟩
  | some ad =>
    clear hL
    have hq : Below w.heap.size w (w.alloc (.cells #[] 9)) := (Below.refl _ _).alloc (Nat.le_refl _) _
    have hA := h.later hq
    have hO := own_emptyS w
    have hz : w.heap.size ≤ (w.alloc (.cells #[] 9)).heap.size := hq.size
    go_enter Tryz.func83, Tryz.ntmps83
    go_wp2_with (first
      | (refine wpList_appS _ rfl _ _ rfl w.heap.size _ 0 [] rfl ad L c l rfl ?ho ?hB hL'.out.symm (by omega) ?hl ?_; (case ho => exact hO); (case hB => exact hA); (case hl => exact hz); rintro bo' bc' w3 hown3 hgr3 hbb3; rw [Nat.zero_add, List.nil_append] at hown3; rw [Nat.zero_add]; have hb3 := hq.trans hbb3; replace hown3 : Hid _ := hown3; clear hgr3 hbb3 hA hO hq)
      | fail)
    go_ret
    exact ⟨bo', bc', rfl, hown3.out, hb3⟩
theorem jall_any (j p : Nat) (h : HdV) (lo : Option Addr) (c : Nat) (l : List (List UInt8)) (br : Bool) (w : World) (hJ : Has w j 75 (jnlC p h lo l.length c br)) (hl : Strs w lo c l) (hb : l.length ≤ 1000000) :
    Calls Tryz.prog 51 #[.pointer (some ⟨j, 0, none⟩)] w fun e w' => ∃ bo bc, e = .returned (.slice bo l.length bc) ∧ w'.ownsRow w.heap.size 9 1 (.slice bo l.length bc) l.length (SsV l) ∧ Below w.heap.size w w' := by
  have c5 : w.cell? ⟨j, 5, none⟩ = some (.slice lo l.length c) := (hJ.cell 5).trans rfl
  have hc : Hid _ := clone_any lo c l w hl hb
  clear hJ hl
  go_enter Tryz.func51, Tryz.ntmps51
  go_wp2_with fail
  refine Calls.mono hc.out ?_
  rintro e w' ⟨bo, bc, rfl, ho, hq⟩
  replace ho : Hid _ := ho
  clear hc
  go_wp2
  go_ret
  exact ⟨bo, bc, rfl, ho.out, hq⟩
def roomM (n : Nat) (l : List (List UInt8)) : Nat := limitM n - (takenM l + 16)
end
end Go.Proofs.YtpnpjblohijajabGreat
