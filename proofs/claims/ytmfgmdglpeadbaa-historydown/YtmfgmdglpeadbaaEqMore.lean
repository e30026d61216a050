/- Daemons, rows of them and increments held against each other by '=='; what a walk needs of '==' of structs. -/
import Derived.Test.YtmfgmdglpeadbaaEqMap
import Derived.Test.YtmfgmdglpeadbaaPlan
import Derived.Test.YtmfgmdglpeadbaaHeld
namespace Go.Proofs.Ytmfgmdglpeadbaa
set_option linter.unusedSimpArgs false
set_option linter.unusedVariables false
open Go.RowKit

theorem guard_map : Try.prog.eqGuardType Try.prog.depth 44 = false := by kernel_rfl
theorem guard_osds : Try.prog.eqGuardType Try.prog.depth 42 = false := by kernel_rfl
theorem guard_osd : Try.prog.eqGuardType Try.prog.depth 41 = false := by kernel_rfl
theorem guard_inc : Try.prog.eqGuardType Try.prog.depth 32 = false := by kernel_rfl

theorem bool_of {r : Bool} {p : Prop} [Decidable p] (h : r = true ↔ p) : r = decide p := by
  by_cases hp : p
  · rw [h.2 hp, decide_eq_true hp]
  · rw [decide_eq_false hp, ← Bool.not_eq_true]
    exact fun e => hp (h.1 e)

/-- Whether two daemons, two increments are one. -/
def sameOsd (a b : OsdV) : Bool := (a.up == b.up) && (decide (a.wt = b.wt) && decide (a.host = b.host))
theorem sameOsd_is (a b : OsdV) : sameOsd a b = true ↔ a = b := by
  obtain ⟨u, n, k⟩ := a
  obtain ⟨u', n', k'⟩ := b
  unfold sameOsd
  simp

def sameInc (a b : IncV) : Bool := decide (a.kind = b.kind) && (decide (a.osd = b.osd) && decide (a.n = b.n))
theorem sameInc_is (a b : IncV) : sameInc a b = true ↔ a = b := by
  obtain ⟨u, n, k⟩ := a
  obtain ⟨u', n', k'⟩ := b
  unfold sameInc
  simp

theorem bool_same {r s : Bool} {p : Prop} (h : r = true ↔ p) (k : s = true ↔ p) : r = s := by rw [Bool.eq_iff_iff, h, k]

def incK (x : IncV) : List Lit := [.int .u8 x.kind, .int .u8 x.osd, .int .i64 x.n]
theorem inc_key : Try.prog.keyTypeAt 5 32 = true := by kernel_rfl
theorem osd_key : Try.prog.keyTypeAt 5 41 = true := by kernel_rfl
theorem osds_key : Try.prog.keyTypeAt 5 42 = true := by kernel_rfl

theorem inc_lits (x : IncV) (h : IncOk x) (D : Nat) : Try.prog.keyLits (D + 2) 32 (incC x).toList = some (incK x) := by
  have w0 := wf_u8 h.kind
  have w1 := wf_u8 h.osd
  have w2 := wf_i64 h.lo h.hi
  unfold Program.keyLits
  rw [Try.underlying32]
  simp [incC, incK, cells_inc, cells_int, cells_u8, Program.keyLits, Try.underlying3, Try.underlying5, w0, w1, w2]

theorem incK_inj {x y : IncV} (h : incK x = incK y) : x = y := by
  obtain ⟨k, o, n⟩ := x
  obtain ⟨k', o', n'⟩ := y
  simp [incK] at h
  obtain ⟨h1, h2, rfl⟩ := h
  have : k = k' := by omega
  subst this
  have : o = o' := by omega
  subst this
  rfl

theorem eq_inc (x y : IncV) (hx : IncOk x) (hy : IncOk y) (w : World) : (binOp .eql 32 (.agg (incC x)) (.agg (incC y))).run Try.prog w = .ok (.bool (sameInc x y)) w := by
  have fa : (Value.agg (incC x)).formed Try.prog 32 = true := by simp [Value.formed, Try.underlying32, cells_inc, incC]
  have fb : (Value.agg (incC y)).formed Try.prog 32 = true := by simp [Value.formed, Try.underlying32, cells_inc, incC]
  obtain ⟨r, hr, hiff⟩ := run_equalIn_deep 9995 5 32 inc_key w 5 5 (.agg (incC x)) (.agg (incC y)) (incK x) (incK y) fa fb (inc_lits x hx 3) (inc_lits y hy 3)
  have hr : (Op.equalIn 10000 32 (.agg (incC x)) (.agg (incC y))).run Try.prog w = .ok r w := hr
  rw [run_eql_struct, hr, bool_same (hiff.trans ⟨incK_inj, fun h => by rw [h]⟩) (sameInc_is x y)]
  rfl

theorem osdK_inj {o p : OsdV} (h : osdK o = osdK p) : o = p := by
  obtain ⟨u, n, k⟩ := o
  obtain ⟨u', n', k'⟩ := p
  simp [osdK] at h
  obtain ⟨rfl, rfl, h3⟩ := h
  have : k = k' := by omega
  subst this
  rfl

theorem neq_osd (o p : OsdV) (ho : OsdFit o) (hp : OsdFit p) (w : World) : (binOp .neq 41 (.agg (osdC o)) (.agg (osdC p))).run Try.prog w = .ok (.bool (!sameOsd o p)) w := by
  have fa : (Value.agg (osdC o)).formed Try.prog 41 = true := by simp [Value.formed, Try.underlying41, cells_osd, osdC, osdL]
  have fb : (Value.agg (osdC p)).formed Try.prog 41 = true := by simp [Value.formed, Try.underlying41, cells_osd, osdC, osdL]
  obtain ⟨r, hr, hiff⟩ := run_equalIn_deep 9995 5 41 osd_key w 5 5 (.agg (osdC o)) (.agg (osdC p)) (osdK o) (osdK p) fa fb (osd_lits o ho 3) (osd_lits p hp 3)
  have hr : (Op.equalIn 10000 41 (.agg (osdC o)) (.agg (osdC p))).run Try.prog w = .ok r w := hr
  rw [run_neq_struct, hr, bool_same (hiff.trans ⟨osdK_inj, fun h => by rw [h]⟩) (sameOsd_is o p)]
  rfl

def osdsK (m : MapV) : List Lit := osdK (m.osd 0) ++ (osdK (m.osd 1) ++ (osdK (m.osd 2) ++ (osdK (m.osd 3) ++ osdK (m.osd 4))))

theorem osdsK_inj {a b : MapV} (h : osdsK a = osdsK b) : a.osd = b.osd := by
  have : mapK { a with epoch := 0 } = mapK { b with epoch := 0 } := by
    unfold osdsK at h
    unfold mapK
    simp only
    rw [h]
  have := mapK_inj this
  injection this

/-- Whether the daemons of two maps are one. -/
def sameO (a b : MapV) : Bool := sameOsd (a.osd 0) (b.osd 0) && (sameOsd (a.osd 1) (b.osd 1) && (sameOsd (a.osd 2) (b.osd 2) && (sameOsd (a.osd 3) (b.osd 3) && sameOsd (a.osd 4) (b.osd 4))))

theorem sameO_is (a b : MapV) : sameO a b = true ↔ a.osd = b.osd := by
  unfold sameO
  simp only [Bool.and_eq_true, sameOsd_is]
  constructor
  · rintro ⟨h0, h1, h2, h3, h4⟩
    funext i
    match i with
    | 0 => exact h0
    | 1 => exact h1
    | 2 => exact h2
    | 3 => exact h3
    | 4 => exact h4
  · intro h
    rw [h]
    exact ⟨rfl, rfl, rfl, rfl, rfl⟩

theorem eq_osds (a b : MapV) (ha : MapOk a) (hb : MapOk b) (w : World) : (binOp .eql 42 (.agg (osdsL a).toArray) (.agg (osdsL b).toArray)).run Try.prog w = .ok (.bool (sameO a b)) w := by
  have fa : (Value.agg (osdsL a).toArray).formed Try.prog 42 = true := by
    have : (osdsL a).length = 15 := rfl
    simp [Value.formed, Try.underlying42, cells_osds, this]
  have fb : (Value.agg (osdsL b).toArray).formed Try.prog 42 = true := by
    have : (osdsL b).length = 15 := rfl
    simp [Value.formed, Try.underlying42, cells_osds, this]
  obtain ⟨r, hr, hiff⟩ := run_equalIn_deep 9995 5 42 osds_key w 5 5 (.agg (osdsL a).toArray) (.agg (osdsL b).toArray) (osdsK a) (osdsK b) fa fb (osds_lits a.osd (fun i => ⟨ha.wt i, ha.host i⟩) 2) (osds_lits b.osd (fun i => ⟨hb.wt i, hb.host i⟩) 2)
  have hr : (Op.equalIn 10000 42 (.agg (osdsL a).toArray) (.agg (osdsL b).toArray)).run Try.prog w = .ok r w := hr
  have e : r = sameO a b := by
    rw [Bool.eq_iff_iff, hiff, sameO_is]
    exact ⟨osdsK_inj, fun h => by unfold osdsK; rw [h]⟩
  rw [run_eql_struct, hr, e]
  rfl

/-- Whether two maps are one. -/
def sameM (a b : MapV) : Bool := decide (a.epoch = b.epoch) && sameO a b
theorem sameM_is (a b : MapV) : sameM a b = true ↔ a = b := by
  unfold sameM
  rw [Bool.and_eq_true, decide_eq_true_iff, sameO_is]
  constructor
  · rintro ⟨h1, h2⟩
    obtain ⟨e, f⟩ := a
    obtain ⟨e', f'⟩ := b
    simp only at h1 h2
    rw [h1, h2]
  · intro h
    rw [h]
    exact ⟨rfl, rfl⟩

theorem eq_maps (a b : MapV) (ha : MapOk a) (hb : MapOk b) (w : World) : (binOp .eql 44 (.agg (mapC a)) (.agg (mapC b))).run Try.prog w = .ok (.bool (sameM a b)) w := by
  obtain ⟨r, hr, hiff⟩ := eq_map a b ha hb w
  have : r = sameM a b := by rw [Bool.eq_iff_iff, hiff, sameM_is]
  rw [hr, this]

section laws
variable {ops : Array Oper} {Q : Exit → Act → World → Prop} {S : World → Prop}

theorem yields_map {o : Oper} {a : Act} (m : MapV) (hw : Region.wanted o (yielded ops a.tmps) = true) (x : Operand) (ho : o.op = .load 44 x) (g : Nat) (hx : a.eval x = .pointer (some ⟨g, 0, none⟩))
    (hg : ∀ w, S w → Has w g 44 (mapC m)) : YieldsIf Try.prog ops S o (.agg (mapC m)) a :=
  yields_load_has hw 44 x ho g hx 44 (mapC m) _ Try.underlying44 rfl (map_size m) hg

theorem yields_inc {o : Oper} {a : Act} (y : IncV) (hw : Region.wanted o (yielded ops a.tmps) = true) (x : Operand) (ho : o.op = .load 32 x) (g : Nat) (hx : a.eval x = .pointer (some ⟨g, 0, none⟩))
    (hg : ∀ w, S w → Has w g 32 (incC y)) : YieldsIf Try.prog ops S o (.agg (incC y)) a :=
  yields_load_has hw 32 x ho g hx 32 (incC y) _ Try.underlying32 rfl (inc_size y) hg

theorem yields_eq_map {o : Oper} {a : Act} (m n : MapV) (hm : MapOk m) (hn : MapOk n) (hw : Region.wanted o (yielded ops a.tmps) = true) (x y : Operand) (ty' : TypeId) (ho : o.op = .binOp .eql 44 x y ty') (hx : a.eval x = .agg (mapC m)) (hy : a.eval y = .agg (mapC n)) :
    YieldsIf Try.prog ops S o (.bool (sameM m n)) a :=
  yields_bin_agg hw .eql 44 ty' x y ho _ _ hx hy _ guard_map (eq_maps m n hm hn)

theorem bin_map {o : Oper} {a : Act} {w : World} {rest : List Oper} (m n : MapV) (hm : MapOk m) (hn : MapOk n) (hw : Region.wanted o (yielded ops a.tmps) = true) (x y : Operand) (ty' : TypeId) (ho : o.op = .binOp .eql 44 x y ty') (hx : a.eval x = .agg (mapC m)) (hy : a.eval y = .agg (mapC n))
    (h : wpList Try.prog ops Q rest (a.put o.dst (.bool (sameM m n))) w) : wpList Try.prog ops Q (o :: rest) a w :=
  wpList_bin_agg hw .eql 44 ty' x y ho _ _ hx hy _ guard_map (eq_maps m n hm hn w) h

theorem bin_inc {o : Oper} {a : Act} {w : World} {rest : List Oper} (m n : IncV) (hm : IncOk m) (hn : IncOk n) (hw : Region.wanted o (yielded ops a.tmps) = true) (x y : Operand) (ty' : TypeId) (ho : o.op = .binOp .eql 32 x y ty') (hx : a.eval x = .agg (incC m)) (hy : a.eval y = .agg (incC n))
    (h : wpList Try.prog ops Q rest (a.put o.dst (.bool (sameInc m n))) w) : wpList Try.prog ops Q (o :: rest) a w :=
  wpList_bin_agg hw .eql 32 ty' x y ho _ _ hx hy _ guard_inc (eq_inc m n hm hn w) h

theorem bin_osds {o : Oper} {a : Act} {w : World} {rest : List Oper} (m n : MapV) (hm : MapOk m) (hn : MapOk n) (hw : Region.wanted o (yielded ops a.tmps) = true) (x y : Operand) (ty' : TypeId) (ho : o.op = .binOp .eql 42 x y ty') (hx : a.eval x = .agg (osdsL m).toArray) (hy : a.eval y = .agg (osdsL n).toArray)
    (h : wpList Try.prog ops Q rest (a.put o.dst (.bool (sameO m n))) w) : wpList Try.prog ops Q (o :: rest) a w :=
  wpList_bin_agg hw .eql 42 ty' x y ho _ _ hx hy _ guard_osds (eq_osds m n hm hn w) h
end laws
end Go.Proofs.Ytmfgmdglpeadbaa
