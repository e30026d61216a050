/- '==' and '!=' of bases, objects, last ones, results, entries, whatever they are: true just if nothing in them is unlike. -/
import Derived.Test.YtphlfepgaghhhaaLogMem
import Derived.Test.YtphlfepgaghhhaaEqOp
import Derived.DeepKeys
import Derived.Laws.StructEq
namespace Go.Proofs.Ytphlfepgaghhhaa
set_option linter.unusedSimpArgs false
set_option linter.unusedVariables false
set_option maxRecDepth 100000
open Go.RowKit

/-- A literal's cell. -/
def litV : Lit → Value
  | .int k n => .int k n
  | .string l => strV l
  | .bool b => .bool b
  | _ => undef

/-- Cells whose literals tell them. -/
def Keyed (D : Nat) (t : TypeId) (cs : List Value) : Prop := ∃ K, Try.prog.keyLits D t cs = some K ∧ K.map litV = cs

theorem keyed_str (l : List UInt8) (h : l.length ≤ 9223372036854775807) (D : Nat) : Keyed (D + 1) 9 [strV l] := ⟨_, str_lits l h D, rfl⟩
theorem keyed_u8 (n : Nat) (h : n < 256) (D : Nat) : Keyed (D + 1) 5 [.int .u8 (n : Int)] := by
  have w0 := wfo_u8 h
  refine ⟨[.int .u8 (n : Int)], ?_, rfl⟩
  unfold Program.keyLits
  rw [Try.underlying5]
  simp [w0]
theorem keyed_u32 (n : Nat) (h : n < 4294967296) (D : Nat) : Keyed (D + 1) 22 [.int .u32 (n : Int)] := by
  have w0 := wfo_u32 h
  refine ⟨[.int .u32 (n : Int)], ?_, rfl⟩
  unfold Program.keyLits
  rw [Try.underlying22]
  simp [w0]
theorem keyed_bool (b : Bool) (D : Nat) : Keyed (D + 1) 4 [.bool b] := by
  refine ⟨[.bool b], ?_, rfl⟩
  unfold Program.keyLits
  rw [Try.underlying4]

theorem keyed_res (r : ResV) (h1 : r.code < 256) (h2 : r.data.length ≤ 9223372036854775807) (D : Nat) : Keyed (D + 2) 28 (resL r) := by
  obtain ⟨K0, e0, m0⟩ := keyed_u8 r.code h1 D
  obtain ⟨K1, e1, m1⟩ := keyed_str r.data h2 D
  refine ⟨K0 ++ K1, ?_, by rw [List.map_append, m0, m1]; rfl⟩
  unfold Program.keyLits
  rw [Try.underlying28]
  simp [resL, co_res, co_u8, co_string, e0, e1]
theorem keyed_last (l : LastV) (h0 : l.seq < 4294967296) (h1 : l.r.code < 256) (h2 : l.r.data.length ≤ 9223372036854775807) (D : Nat) : Keyed (D + 3) 30 (lastL l) := by
  obtain ⟨K0, e0, m0⟩ := keyed_u32 l.seq h0 (D + 1)
  obtain ⟨K1, e1, m1⟩ := keyed_res l.r h1 h2 D
  refine ⟨K0 ++ K1, ?_, by rw [List.map_append, m0, m1]; rfl⟩
  have e1 : Try.prog.keyLits (D + 2) 28 [.int .u8 (l.r.code : Int), strV l.r.data] = some K1 := e1
  unfold Program.keyLits
  rw [Try.underlying30]
  simp [lastL, resL, co_last, co_u32, co_res, e0, e1]
structure ObjIn (x : ObjV) : Prop where
  data : x.data.length ≤ 9223372036854775807
  a0 : x.a0.length ≤ 9223372036854775807
  a1 : x.a1.length ≤ 9223372036854775807
  a2 : x.a2.length ≤ 9223372036854775807
structure LastIn (l : LastV) : Prop where
  seq : l.seq < 4294967296
  code : l.r.code < 256
  rdata : l.r.data.length ≤ 9223372036854775807
theorem BaseIn.obj {b : BaseV} (h : BaseIn b) (i : Fin 6) : ObjIn (b.obj i) := ⟨h.data i, h.a0 i, h.a1 i, h.a2 i⟩
theorem BaseIn.last {b : BaseV} (h : BaseIn b) (i : Fin 3) : LastIn (b.last i) := ⟨h.seq i, h.code i, h.rdata i⟩
theorem keyed_obj (x : ObjV) (h : ObjIn x) (D : Nat) : Keyed (D + 3) 25 (objL x) := by
  obtain ⟨Kb, eb, mb⟩ := keyed_bool x.there (D + 1)
  obtain ⟨Kd, ed, md⟩ := keyed_str x.data h.data (D + 1)
  obtain ⟨K0, e0, m0⟩ := keyed_str x.a0 h.a0 D
  obtain ⟨K1, e1, m1⟩ := keyed_str x.a1 h.a1 D
  obtain ⟨K2, e2, m2⟩ := keyed_str x.a2 h.a2 D
  have ea : Try.prog.keyLits (D + 2) 23 [strV x.a0, strV x.a1, strV x.a2] = some (K0 ++ (K1 ++ K2)) := by
    unfold Program.keyLits
    rw [Try.underlying23]
    simp [co_attrs, co_string, show List.range 3 = [0, 1, 2] from rfl, e0, e1, e2]
  refine ⟨Kb ++ (Kd ++ (K0 ++ (K1 ++ K2))), ?_, by rw [List.map_append, List.map_append, List.map_append, List.map_append, mb, md, m0, m1, m2]; rfl⟩
  unfold Program.keyLits
  rw [Try.underlying25]
  simp [objL, co_obj, co_bool, co_string, co_attrs, eb, ed, ea]
theorem keyed_op (o : OpV) (h : OpOk o) (D : Nat) : Keyed (D + 2) 35 (opL o) := ⟨_, op_lits o h D, rfl⟩
theorem co_ent : Try.prog.cellsOf 37 = 8 := by kernel_rfl
theorem co_op' : Try.prog.cellsOf 35 = 6 := by kernel_rfl
theorem keyed_ent (e : EntV) (h : EntOk e) (D : Nat) : Keyed (D + 3) 37 (entL e) := by
  obtain ⟨K0, e0, m0⟩ := keyed_u32 e.since h.since (D + 1)
  obtain ⟨K1, e1, m1⟩ := keyed_u32 e.n h.n (D + 1)
  obtain ⟨K2, e2, m2⟩ := keyed_op e.op h.op D
  refine ⟨K0 ++ (K1 ++ K2), ?_, by rw [List.map_append, List.map_append, m0, m1, m2]; rfl⟩
  have e2 : Try.prog.keyLits (D + 2) 35 [.int .u8 (e.op.client : Int), .int .u32 (e.op.seq : Int), .int .u8 (e.op.kind : Int), .int .u8 (e.op.obj : Int), .int .u8 (e.op.pos : Int), strV e.op.data] = some K2 := e2
  unfold Program.keyLits
  rw [Try.underlying37]
  simp [entL, opL, co_ent, co_op', co_u32, e0, e1, e2]
theorem keyed_objs (f : Fin 6 → ObjV) (h : ∀ i, ObjIn (f i)) : Keyed 7 26 (objsL f) := by
  obtain ⟨K0, e0, m0⟩ := keyed_obj (f 0) (h 0) 3
  obtain ⟨K1, e1, m1⟩ := keyed_obj (f 1) (h 1) 3
  obtain ⟨K2, e2, m2⟩ := keyed_obj (f 2) (h 2) 3
  obtain ⟨K3, e3, m3⟩ := keyed_obj (f 3) (h 3) 3
  obtain ⟨K4, e4, m4⟩ := keyed_obj (f 4) (h 4) 3
  obtain ⟨K5, e5, m5⟩ := keyed_obj (f 5) (h 5) 3
  refine ⟨K0 ++ (K1 ++ (K2 ++ (K3 ++ (K4 ++ K5)))), ?_, by rw [List.map_append, List.map_append, List.map_append, List.map_append, List.map_append, m0, m1, m2, m3, m4, m5]; rfl⟩
  simp only [objL] at e0 e1 e2 e3 e4 e5
  unfold Program.keyLits
  rw [Try.underlying26]
  simp [objsL, objL, co_obj, co_objs, show List.range 6 = [0, 1, 2, 3, 4, 5] from rfl, e0, e1, e2, e3, e4, e5]
theorem keyed_lasts (f : Fin 3 → LastV) (h : ∀ i, LastIn (f i)) : Keyed 7 31 (lastsL f) := by
  obtain ⟨K0, e0, m0⟩ := keyed_last (f 0) (h 0).seq (h 0).code (h 0).rdata 3
  obtain ⟨K1, e1, m1⟩ := keyed_last (f 1) (h 1).seq (h 1).code (h 1).rdata 3
  obtain ⟨K2, e2, m2⟩ := keyed_last (f 2) (h 2).seq (h 2).code (h 2).rdata 3
  refine ⟨K0 ++ (K1 ++ K2), ?_, by rw [List.map_append, List.map_append, m0, m1, m2]; rfl⟩
  simp only [lastL, resL] at e0 e1 e2
  unfold Program.keyLits
  rw [Try.underlying31]
  simp [lastsL, lastL, resL, co_last, co_lasts, show List.range 3 = [0, 1, 2] from rfl, e0, e1, e2]
theorem keyed_base (b : BaseV) (h : BaseIn b) : Keyed 8 33 (baseL b) := by
  obtain ⟨K0, e0, m0⟩ := keyed_objs b.obj (fun i => h.obj i)
  obtain ⟨K1, e1, m1⟩ := keyed_lasts b.last (fun i => h.last i)
  refine ⟨K0 ++ K1, ?_, by rw [List.map_append, m0, m1]; rfl⟩
  have l0 : (objsL b.obj).length = 30 := rfl
  have l1 : (lastsL b.last).length = 9 := rfl
  unfold Program.keyLits baseL
  rw [Try.underlying33]
  generalize objsL b.obj = A at *
  generalize lastsL b.last = B at *
  have t0 : (A ++ B).take 30 = A := by rw [← l0, List.take_left]
  have t1 : (A ++ B).drop 30 = B := by rw [← l0, List.drop_left]
  have t2 : B.take 9 = B := List.take_of_length_le (by omega)
  simp [co_base, co_objs, co_lasts, l0, l1, t0, t1, t2, e0, e1]

theorem eq_keyed (t : TypeId) (c d : Array Value) (hk : Try.prog.keyTypeAt 8 t = true) (hc : (Value.agg c).formed Try.prog t = true) (hd : (Value.agg d).formed Try.prog t = true) (h1 : Keyed 8 t c.toList) (h2 : Keyed 8 t d.toList) (b : Bool) (hb : b = true ↔ c.toList = d.toList) (w : World) :
    (Op.equalIn 10000 t (.agg c) (.agg d)).run Try.prog w = .ok b w := by
  obtain ⟨K, e, m⟩ := h1
  obtain ⟨L, f, n⟩ := h2
  obtain ⟨r, hr, hiff⟩ := run_equalIn_deep 9992 8 t hk w 8 8 (.agg c) (.agg d) K L hc hd e f
  have hs : r = b := by
    rw [Bool.eq_iff_iff, hb]
    refine hiff.trans ⟨fun h => by rw [← m, ← n, h], fun h => ?_⟩
    rw [h, f] at e
    exact (Option.some.inj e).symm
  rw [← hs]
  exact hr
theorem eql_keyed (t : TypeId) (c d : Array Value) (hk : Try.prog.keyTypeAt 8 t = true) (hc : (Value.agg c).formed Try.prog t = true) (hd : (Value.agg d).formed Try.prog t = true) (h1 : Keyed 8 t c.toList) (h2 : Keyed 8 t d.toList) (b : Bool) (hb : b = true ↔ c.toList = d.toList) (w : World) :
    (binOp .eql t (.agg c) (.agg d)).run Try.prog w = .ok (.bool b) w := by
  rw [run_eql_struct, eq_keyed t c d hk hc hd h1 h2 b hb w]
  rfl
theorem neql_keyed (t : TypeId) (c d : Array Value) (hk : Try.prog.keyTypeAt 8 t = true) (hc : (Value.agg c).formed Try.prog t = true) (hd : (Value.agg d).formed Try.prog t = true) (h1 : Keyed 8 t c.toList) (h2 : Keyed 8 t d.toList) (b : Bool) (hb : b = true ↔ c.toList = d.toList) (w : World) :
    (binOp .neq t (.agg c) (.agg d)).run Try.prog w = .ok (.bool (!b)) w := by
  rw [run_neq_struct, eq_keyed t c d hk hc hd h1 h2 b hb w]
  rfl

/-- A test that tells whether two are the same. -/
structure Tests (α : Type) where
  f : α → α → Bool
  is : ∀ a b, f a b = true ↔ a = b
def tOp : Tests OpV := ⟨sameOp, sameOp_is⟩
def tRes : Tests ResV := ⟨fun a b => decide (a.code = b.code) && decide (a.data = b.data), fun a b => by
  simp only [Bool.and_eq_true, decide_eq_true_iff]
  constructor
  · rintro ⟨h1, h2⟩
    obtain ⟨c, d⟩ := a
    obtain ⟨c', d'⟩ := b
    simp_all
  · rintro rfl
    exact ⟨rfl, rfl⟩⟩
def tLast : Tests LastV := ⟨fun a b => decide (a.seq = b.seq) && tRes.f a.r b.r, fun a b => by
  simp only [Bool.and_eq_true, decide_eq_true_iff, tRes.is]
  constructor
  · rintro ⟨h1, h2⟩
    obtain ⟨c, d⟩ := a
    obtain ⟨c', d'⟩ := b
    simp_all
  · rintro rfl
    exact ⟨rfl, rfl⟩⟩
def tObj : Tests ObjV := ⟨fun a b => decide (a.there = b.there) && (decide (a.data = b.data) && (decide (a.a0 = b.a0) && (decide (a.a1 = b.a1) && decide (a.a2 = b.a2)))), fun a b => by
  simp only [Bool.and_eq_true, decide_eq_true_iff]
  constructor
  · rintro ⟨h1, h2, h3, h4, h5⟩
    obtain ⟨c, d, e, f, g⟩ := a
    obtain ⟨c', d', e', f', g'⟩ := b
    simp_all
  · rintro rfl
    exact ⟨rfl, rfl, rfl, rfl, rfl⟩⟩
def tBase : Tests BaseV := ⟨fun a b => (tObj.f (a.obj 0) (b.obj 0) && (tObj.f (a.obj 1) (b.obj 1) && (tObj.f (a.obj 2) (b.obj 2) && (tObj.f (a.obj 3) (b.obj 3) && (tObj.f (a.obj 4) (b.obj 4) && tObj.f (a.obj 5) (b.obj 5)))))) && (tLast.f (a.last 0) (b.last 0) && (tLast.f (a.last 1) (b.last 1) && tLast.f (a.last 2) (b.last 2))), fun a b => by
  simp only [Bool.and_eq_true, tObj.is, tLast.is]
  constructor
  · rintro ⟨⟨h0, h1, h2, h3, h4, h5⟩, g0, g1, g2⟩
    obtain ⟨c, d⟩ := a
    obtain ⟨c', d'⟩ := b
    have e1 : c = c' := by
      funext i
      match i with
      | 0 => exact h0
      | 1 => exact h1
      | 2 => exact h2
      | 3 => exact h3
      | 4 => exact h4
      | 5 => exact h5
    have e2 : d = d' := by
      funext i
      match i with
      | 0 => exact g0
      | 1 => exact g1
      | 2 => exact g2
    rw [e1, e2]
  · rintro rfl
    exact ⟨⟨rfl, rfl, rfl, rfl, rfl, rfl⟩, rfl, rfl, rfl⟩⟩
def tEnt : Tests EntV := ⟨fun a b => decide (a.since = b.since) && (decide (a.n = b.n) && sameOp a.op b.op), fun a b => by
  simp only [Bool.and_eq_true, decide_eq_true_iff, sameOp_is]
  constructor
  · rintro ⟨h1, h2, h3⟩
    obtain ⟨c, d, e⟩ := a
    obtain ⟨c', d', e'⟩ := b
    simp_all
  · rintro rfl
    exact ⟨rfl, rfl, rfl⟩⟩
def rowsSame : List EntV → List EntV → Bool
  | [], [] => true
  | a :: l, b :: m => tEnt.f a b && rowsSame l m
  | _, _ => false
theorem rowsSame_is : ∀ a b : List EntV, rowsSame a b = true ↔ a = b
  | [], [] => by simp [rowsSame]
  | [], b :: m => by simp [rowsSame]
  | a :: l, [] => by simp [rowsSame]
  | a :: l, b :: m => by simp only [rowsSame, Bool.and_eq_true, tEnt.is, rowsSame_is l m, List.cons.injEq]
def tRows : Tests (List EntV) := ⟨rowsSame, rowsSame_is⟩
def tSt : Tests StV := ⟨fun a b => decide (a.started = b.started) && (tBase.f a.base b.base && (tEnt.f a.tail b.tail && rowsSame a.log b.log)), fun a b => by
  simp only [Bool.and_eq_true, decide_eq_true_iff, tBase.is, tEnt.is, rowsSame_is]
  constructor
  · rintro ⟨h1, h2, h3, h4⟩
    obtain ⟨c, d, e, f⟩ := a
    obtain ⟨c', d', e', f'⟩ := b
    simp_all
  · rintro rfl
    exact ⟨rfl, rfl, rfl, rfl⟩⟩
/-- Whether two are the same, by a test of their type. -/
def same {α : Type} (d : Tests α) (a b : α) : Bool := d.f a b
theorem same_is {α : Type} (a b : α) {d : Tests α} : same d a b = true ↔ a = b := d.is a b
theorem same_self {α : Type} (a : α) {d : Tests α} : same d a a = true := (same_is a a).2 rfl
theorem same_not {α : Type} {a b : α} {d : Tests α} (h : a ≠ b) : same d a b = false := by
  cases hs : same d a b with
  | false => rfl
  | true => exact absurd ((same_is a b).1 hs) h

theorem strV_inj {a b : List UInt8} (h : strV a = strV b) : a = b := by
  unfold strV at h
  injection h with h
  exact mkS_inj h
theorem u_inj {k : IntKind} {a b : Nat} (h : Value.int k (a : Int) = .int k (b : Int)) : a = b := by
  injection h with _ h
  omega
theorem resL_inj {a b : ResV} (h : resL a = resL b) : a = b := by
  obtain ⟨c, d⟩ := a
  obtain ⟨c', d'⟩ := b
  simp only [resL, List.cons.injEq, and_true] at h
  rw [u_inj h.1, strV_inj h.2]
theorem lastL_inj {a b : LastV} (h : lastL a = lastL b) : a = b := by
  obtain ⟨c, d⟩ := a
  obtain ⟨c', d'⟩ := b
  simp only [lastL, List.cons.injEq] at h
  rw [u_inj h.1, resL_inj h.2]
theorem objL_inj {a b : ObjV} (h : objL a = objL b) : a = b := by
  obtain ⟨c, d, e, f, g⟩ := a
  obtain ⟨c', d', e', f', g'⟩ := b
  simp only [objL, List.cons.injEq, and_true] at h
  have hc : c = c' := by injection h.1
  rw [hc, strV_inj h.2.1, strV_inj h.2.2.1, strV_inj h.2.2.2.1, strV_inj h.2.2.2.2]
theorem opL_inj {a b : OpV} (h : opL a = opL b) : a = b := by
  obtain ⟨c, d, e, f, g, i⟩ := a
  obtain ⟨c', d', e', f', g', i'⟩ := b
  simp only [opL, List.cons.injEq, and_true] at h
  rw [u_inj h.1, u_inj h.2.1, u_inj h.2.2.1, u_inj h.2.2.2.1, u_inj h.2.2.2.2.1, strV_inj h.2.2.2.2.2]
theorem entL_inj {a b : EntV} (h : entL a = entL b) : a = b := by
  obtain ⟨c, d, e⟩ := a
  obtain ⟨c', d', e'⟩ := b
  simp only [entL, List.cons.injEq] at h
  rw [u_inj h.1, u_inj h.2.1, opL_inj h.2.2]
theorem app_inj {A B C D : List Value} (h : A ++ B = C ++ D) (hl : A.length = C.length) : A = C ∧ B = D := List.append_inj h hl
theorem objsL_inj {f g : Fin 6 → ObjV} (h : objsL f = objsL g) : f = g := by
  unfold objsL at h
  obtain ⟨h0, h⟩ := app_inj h rfl
  obtain ⟨h1, h⟩ := app_inj h rfl
  obtain ⟨h2, h⟩ := app_inj h rfl
  obtain ⟨h3, h⟩ := app_inj h rfl
  obtain ⟨h4, h5⟩ := app_inj h rfl
  funext i
  match i with
  | 0 => exact objL_inj h0
  | 1 => exact objL_inj h1
  | 2 => exact objL_inj h2
  | 3 => exact objL_inj h3
  | 4 => exact objL_inj h4
  | 5 => exact objL_inj h5
theorem lastsL_inj {f g : Fin 3 → LastV} (h : lastsL f = lastsL g) : f = g := by
  unfold lastsL at h
  obtain ⟨h0, h⟩ := app_inj h rfl
  obtain ⟨h1, h2⟩ := app_inj h rfl
  funext i
  match i with
  | 0 => exact lastL_inj h0
  | 1 => exact lastL_inj h1
  | 2 => exact lastL_inj h2
theorem baseL_inj {a b : BaseV} (h : baseL a = baseL b) : a = b := by
  unfold baseL at h
  obtain ⟨h0, h1⟩ := app_inj h rfl
  obtain ⟨f, g⟩ := a
  obtain ⟨f', g'⟩ := b
  have h0 : objsL f = objsL f' := h0
  have h1 : lastsL g = lastsL g' := h1
  rw [objsL_inj h0, lastsL_inj h1]

theorem key_ent : Try.prog.keyTypeAt 8 37 = true := by kernel_rfl
theorem guard_ent : Try.prog.eqGuardType Try.prog.depth 37 = false := by kernel_rfl
theorem guard_last : Try.prog.eqGuardType Try.prog.depth 30 = false := by kernel_rfl

theorem formed_base (b : BaseV) : (Value.agg (baseC b)).formed Try.prog 33 = true := by simp [Value.formed, Try.underlying33, co_base]; rfl
theorem formed_obj (x : ObjV) : (Value.agg (objC x)).formed Try.prog 25 = true := by simp [Value.formed, Try.underlying25, co_obj]; rfl
theorem formed_last (l : LastV) : (Value.agg (lastC l)).formed Try.prog 30 = true := by simp [Value.formed, Try.underlying30, co_last]; rfl
theorem formed_res (r : ResV) : (Value.agg (resC r)).formed Try.prog 28 = true := by simp [Value.formed, Try.underlying28, co_res]; rfl
theorem formed_ent (e : EntV) : (Value.agg (entC e)).formed Try.prog 37 = true := by simp [Value.formed, Try.underlying37, co_ent]; rfl
theorem formed_op (o : OpV) : (Value.agg (opC o)).formed Try.prog 35 = true := by simp [Value.formed, Try.underlying35, co_op']; rfl

theorem eqv_base (a b : BaseV) (ha : BaseIn a) (hb : BaseIn b) (w : World) : (binOp .eql 33 (.agg (baseC a)) (.agg (baseC b))).run Try.prog w = .ok (.bool (same tBase a b)) w :=
  eql_keyed 33 _ _ key_base (formed_base a) (formed_base b) (keyed_base a ha) (keyed_base b hb) _ ((same_is a b).trans ⟨fun h => by rw [h], fun h => baseL_inj h⟩) w
theorem neqv_base (a b : BaseV) (ha : BaseIn a) (hb : BaseIn b) (w : World) : (binOp .neq 33 (.agg (baseC a)) (.agg (baseC b))).run Try.prog w = .ok (.bool (!same tBase a b)) w :=
  neql_keyed 33 _ _ key_base (formed_base a) (formed_base b) (keyed_base a ha) (keyed_base b hb) _ ((same_is a b).trans ⟨fun h => by rw [h], fun h => baseL_inj h⟩) w
theorem eqv_obj (a b : ObjV) (ha : ObjIn a) (hb : ObjIn b) (w : World) : (binOp .eql 25 (.agg (objC a)) (.agg (objC b))).run Try.prog w = .ok (.bool (same tObj a b)) w :=
  eql_keyed 25 _ _ key_obj (formed_obj a) (formed_obj b) (keyed_obj a ha 5) (keyed_obj b hb 5) _ ((same_is a b).trans ⟨fun h => by rw [h], fun h => objL_inj h⟩) w
theorem neqv_obj (a b : ObjV) (ha : ObjIn a) (hb : ObjIn b) (w : World) : (binOp .neq 25 (.agg (objC a)) (.agg (objC b))).run Try.prog w = .ok (.bool (!same tObj a b)) w :=
  neql_keyed 25 _ _ key_obj (formed_obj a) (formed_obj b) (keyed_obj a ha 5) (keyed_obj b hb 5) _ ((same_is a b).trans ⟨fun h => by rw [h], fun h => objL_inj h⟩) w
theorem eqv_last (a b : LastV) (ha : LastIn a) (hb : LastIn b) (w : World) : (binOp .eql 30 (.agg (lastC a)) (.agg (lastC b))).run Try.prog w = .ok (.bool (same tLast a b)) w :=
  eql_keyed 30 _ _ key_last (formed_last a) (formed_last b) (keyed_last a ha.seq ha.code ha.rdata 5) (keyed_last b hb.seq hb.code hb.rdata 5) _ ((same_is a b).trans ⟨fun h => by rw [h], fun h => lastL_inj h⟩) w
theorem eqv_res (a b : ResV) (h1 : a.code < 256) (h2 : a.data.length ≤ 9223372036854775807) (h3 : b.code < 256) (h4 : b.data.length ≤ 9223372036854775807) (w : World) : (binOp .eql 28 (.agg (resC a)) (.agg (resC b))).run Try.prog w = .ok (.bool (same tRes a b)) w :=
  eql_keyed 28 _ _ key_res (formed_res a) (formed_res b) (keyed_res a h1 h2 6) (keyed_res b h3 h4 6) _ ((same_is a b).trans ⟨fun h => by rw [h], fun h => resL_inj h⟩) w
theorem eqv_ent (a b : EntV) (ha : EntOk a) (hb : EntOk b) (w : World) : (binOp .eql 37 (.agg (entC a)) (.agg (entC b))).run Try.prog w = .ok (.bool (same tEnt a b)) w :=
  eql_keyed 37 _ _ key_ent (formed_ent a) (formed_ent b) (keyed_ent a ha 5) (keyed_ent b hb 5) _ ((same_is a b).trans ⟨fun h => by rw [h], fun h => entL_inj h⟩) w
theorem neqv_ent (a b : EntV) (ha : EntOk a) (hb : EntOk b) (w : World) : (binOp .neq 37 (.agg (entC a)) (.agg (entC b))).run Try.prog w = .ok (.bool (!same tEnt a b)) w :=
  neql_keyed 37 _ _ key_ent (formed_ent a) (formed_ent b) (keyed_ent a ha 5) (keyed_ent b hb 5) _ ((same_is a b).trans ⟨fun h => by rw [h], fun h => entL_inj h⟩) w
theorem neqv_op (a b : OpV) (ha : OpOk a) (hb : OpOk b) (w : World) : (binOp .neq 35 (.agg (opC a)) (.agg (opC b))).run Try.prog w = .ok (.bool (!same tOp a b)) w :=
  neql_keyed 35 _ _ key_op (formed_op a) (formed_op b) (keyed_op a ha 6) (keyed_op b hb 6) _ ((same_is a b).trans ⟨fun h => by rw [h], fun h => opL_inj h⟩) w
end Go.Proofs.Ytphlfepgaghhhaa
