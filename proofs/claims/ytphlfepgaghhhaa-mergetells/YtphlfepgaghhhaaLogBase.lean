/- The contracts of pglog's isObject, isLast, isBase. -/
import Derived.Test.YtphlfepgaghhhaaLogSmall
namespace Go.Proofs.Ytphlfepgaghhhaa
set_option linter.unusedSimpArgs false
set_option linter.unusedVariables false
set_option maxRecDepth 100000
open Go.RowKit

theorem obj0_in : ObjIn obj0 := ⟨by decide, by decide, by decide, by decide⟩
theorem last0_in : LastIn last0 := ⟨by decide, by decide, by decide⟩
theorem same_obj0 {x : ObjV} (h : x.there = false) : same tObj x obj0 = isObjM x := by
  rw [Bool.eq_iff_iff, same_is, isObj_is]
  obtain ⟨a, b, c, d, e⟩ := x
  have h : a = false := h
  subst h
  constructor
  · intro h
    cases h
    simp
  · rintro ⟨h, _⟩
    obtain ⟨h1, h2, h3, h4⟩ := h rfl
    have h1 : b = [] := h1
    have h2 : c = [] := h2
    have h3 : d = [] := h3
    have h4 : e = [] := h4
    subst h1 h2 h3 h4
    rfl
theorem isObj_there {x : ObjV} (h : x.there = true) : isObjM x = decide (x.a0.length ≤ 16 ∧ x.a1.length ≤ 16 ∧ x.a2.length ≤ 16 ∧ x.data.length ≤ 16) := by
  rw [Bool.eq_iff_iff, isObj_is, decide_eq_true_iff]
  constructor
  · rintro ⟨_, h1, h2, h3, h4⟩
    exact ⟨h2, h3, h4, h1⟩
  · rintro ⟨h2, h3, h4, h1⟩
    exact ⟨(fun e => by rw [h] at e; cases e), h1, h2, h3, h4⟩
theorem same_last0 {l : LastV} (h : l.seq = 0) : same tLast l last0 = isLastM l := by
  rw [Bool.eq_iff_iff, same_is, isLast_is]
  obtain ⟨a, b, c⟩ := l
  have h : a = 0 := h
  subst h
  constructor
  · intro h
    cases h
    simp [res0]
  · rintro ⟨h1, _, h2⟩
    have h1 : c = [] := h1
    have h3 : b = 0 := h2 rfl
    rw [h1, h3]
    rfl
section
variable {P : Program} {ops : Array Oper} {rest : List Oper} {o : Oper} {a : Act} {w : World} {Q : Exit → Act → World → Prop}
/-- An element of an array that is a value, of one cell. -/
theorem run_index_one (ty e : TypeId) (len n : Nat) (cs : Array Value) (d : TypeDesc) (hu : P.underlying ty = some (.array len e)) (hn : n < len) (hue : P.underlying e = some d) (hd : d.isRow = false) (hi : (P.info? e).map (·.size) = some 1) (v : Value) (hv : cs[n]? = some v) :
    (Instr.index ty (.agg cs) (.int .i64 (n : Int))).run P w = .ok v w := by
  cases hq : P.info? e with
  | none => simp [hq] at hi
  | some i =>
    have hs : i.size = 1 := by simpa [hq] using hi
    have hagg : (isAgg e).run P w = .ok false w := by
      unfold isAgg
      rw [Sem.run_bind, run_underlying hue w]
      cases d <;> simp_all
    have h0 : (0 : Int) ≤ (n : Int) ∧ (n : Int) < (len : Int) := by omega
    have h1 : ¬ ((len : Int) ≤ (n : Int)) := by omega
    simp [Instr.index, asIntOf, Sem.run_bind, run_underlying hu, h0, h1, sizeOf, typeInfo, hq, hs, part, hagg, hv]
    intro hh
    omega
theorem wpList_index_one (hw : Region.wanted o (yielded ops a.tmps) = true) (ty : TypeId) (x y : Operand) (ho : o.op = .index ty x y) (n : Nat) (cs : Array Value) (hx : a.eval x = .agg cs) (hy : a.eval y = .int .i64 (n : Int))
    (e : TypeId) (len : Nat) (d : TypeDesc) (hu : P.underlying ty = some (.array len e)) (hn : n < len) (hue : P.underlying e = some d) (hd : d.isRow = false) (hi : (P.info? e).map (·.size) = some 1) (v : Value) (hv : cs[n]? = some v)
    (h : wpList P ops Q rest (a.put o.dst v) w) : wpList P ops Q (o :: rest) a w := by
  refine BigFrame.wpList_want hw fun K hK => ?_
  unfold Oper.wp execOp
  simp only [ho, hx, hy]
  simp only [Sem.run_bind, run_index_one ty e len n cs d hu hn hue hd hi v hv]
  exact hK _ _ h
end
theorem string_size1 : (Try.prog.info? 9).map (·.size) = some 1 := by kernel_rfl

theorem attrs_at {w : World} {g : Nat} {x : ObjV} (h : Has w g 25 (objC x)) : w.rangeAt g 2 [strV x.a0, strV x.a1, strV x.a2] := h.range _ _ fun j v hj => by
  have hl : j < 3 := (List.getElem?_eq_some_iff.1 hj).1
  match j, hl with
  | 0, _ => exact hj
  | 1, _ => exact hj
  | 2, _ => exact hj
theorem attrs_size (a b c : List UInt8) : (Try.prog.info? 23).map (·.size) = some [strV a, strV b, strV c].length := by show _ = some 3; kernel_rfl

set_option maxHeartbeats 4000000 in
theorem isObject_any (x : ObjV) (w : World) (hx : ObjIn x) : Calls Try.prog 67 #[.agg (objC x)] w fun en w' => en = .returned (.bool (isObjM x)) ∧ Below w.heap.size w w' := by
  obtain ⟨w1, hw1, hX, hb⟩ := one_var w 25 (objC x)
  have c0 := (hX.cell 0).trans (show (objC x)[0]? = some (.bool x.there) from rfl)
  have c1 := (hX.cell 1).trans (show (objC x)[1]? = some (.string (mkS x.data)) from rfl)
  have ha := attrs_at hX
  cases ht : x.there with
  | false =>
    have heq := fun W => eqv_obj x obj0 hx obj0_in W
    rw [same_obj0 ht] at heq
    rw [ht] at c0
    replace ht : Hid _ := ht
    go_enter Try.func67, Try.ntmps67
    go_wp2_with (first
      | (refine wpList_load_has (by rfl) 25 _ rfl w.heap.size rfl 25 (objC x) _ Try.underlying25 rfl (obj_size _) ?hg ?_; (case hg => exact hX))
      | (refine wpList_build_has (by rfl) 25 #[] rfl (objC obj0) (by simpa using obj_built) ?_)
      | (refine wpList_bin_agg (by rfl) .eql 25 _ _ _ rfl (objC x) (objC obj0) rfl rfl (.bool (isObjM x)) guard_obj ?hg ?_; (case hg => exact heq _)))
    go_ret
    exact ⟨rfl, hb⟩
  | true =>
    have hM : Hid _ := isObj_there ht
    rw [ht] at c0
    replace ht : Hid _ := ht
    have d0 := hx.data
    have d1 := hx.a0
    have d2 := hx.a1
    have d3 := hx.a2
    have s0 := mkS_size x.data
    have s1 := mkS_size x.a0
    have s2 := mkS_size x.a1
    have s3 := mkS_size x.a2
    have v1 : strV x.a0 = .string (mkS x.a0) := rfl
    have v2 : strV x.a1 = .string (mkS x.a1) := rfl
    have v3 : strV x.a2 = .string (mkS x.a2) := rfl
    go_enter Try.func67, Try.ntmps67
    go_wp2_with (first
      | (refine wpList_load_mid' (by rfl) 23 _ rfl w.heap.size 2 rfl [strV x.a0, strV x.a1, strV x.a2] _ ?hg Try.underlying23 rfl (attrs_size _ _ _) ?_; (case hg => exact ha)))
    go_loopw [13] (fun i wr => ∃ n : Nat, n ≤ 3 ∧ i = .int .i64 n ∧ wr = w1 ∧ (0 < n → x.a0.length ≤ 16) ∧ (1 < n → x.a1.length ≤ 16) ∧ (2 < n → x.a2.length ≤ 16)) (fun i _ => 3 - (intOf i).toNat)
    case atStart => exact ⟨0, by decide, rfl, rfl, fun h => by omega, fun h => by omega, fun h => by omega⟩
    case round =>
      obtain ⟨n, hn, rfl, rfl, k0, k1, k2⟩ := hrel
      match n, hn with
      | 0, _ =>
        by_cases h : x.a0.length ≤ 16
        · have hI : ¬ (16 < (x.a0.length : Int)) := by omega
          go_wp2_with (first
            | (refine wpList_index_one (by rfl) 23 _ _ rfl 0 #[strV x.a0, strV x.a1, strV x.a2] rfl rfl 9 3 _ Try.underlying23 (by decide) Try.underlying9 rfl string_size1 (strV x.a0) rfl ?_))
          go_roundw
          case rel => exact ⟨1, by decide, rfl, (by first | trivial | rfl), fun _ => h, fun h => by omega, fun h => by omega⟩
          case measure => simp [intOf]
        · have hI : 16 < (x.a0.length : Int) := by omega
          go_wp2_with (first
            | (refine wpList_index_one (by rfl) 23 _ _ rfl 0 #[strV x.a0, strV x.a1, strV x.a2] rfl rfl 9 3 _ Try.underlying23 (by decide) Try.underlying9 rfl string_size1 (strV x.a0) rfl ?_))
          go_ret
          exact ⟨by rw [hM.out, decide_eq_false (by omega)]; rfl, hb⟩
      | 1, _ =>
        by_cases h : x.a1.length ≤ 16
        · have hI : ¬ (16 < (x.a1.length : Int)) := by omega
          go_wp2_with (first
            | (refine wpList_index_one (by rfl) 23 _ _ rfl 1 #[strV x.a0, strV x.a1, strV x.a2] rfl rfl 9 3 _ Try.underlying23 (by decide) Try.underlying9 rfl string_size1 (strV x.a1) rfl ?_))
          go_roundw
          case rel => exact ⟨2, by decide, rfl, (by first | trivial | rfl), fun _ => k0 (by omega), fun _ => h, fun h => by omega⟩
          case measure => simp [intOf]
        · have hI : 16 < (x.a1.length : Int) := by omega
          go_wp2_with (first
            | (refine wpList_index_one (by rfl) 23 _ _ rfl 1 #[strV x.a0, strV x.a1, strV x.a2] rfl rfl 9 3 _ Try.underlying23 (by decide) Try.underlying9 rfl string_size1 (strV x.a1) rfl ?_))
          go_ret
          exact ⟨by rw [hM.out, decide_eq_false (by omega)]; rfl, hb⟩
      | 2, _ =>
        by_cases h : x.a2.length ≤ 16
        · have hI : ¬ (16 < (x.a2.length : Int)) := by omega
          go_wp2_with (first
            | (refine wpList_index_one (by rfl) 23 _ _ rfl 2 #[strV x.a0, strV x.a1, strV x.a2] rfl rfl 9 3 _ Try.underlying23 (by decide) Try.underlying9 rfl string_size1 (strV x.a2) rfl ?_))
          go_roundw
          case rel => exact ⟨3, by decide, rfl, (by first | trivial | rfl), fun _ => k0 (by omega), fun _ => k1 (by omega), fun _ => h⟩
          case measure => simp [intOf]
        · have hI : 16 < (x.a2.length : Int) := by omega
          go_wp2_with (first
            | (refine wpList_index_one (by rfl) 23 _ _ rfl 2 #[strV x.a0, strV x.a1, strV x.a2] rfl rfl 9 3 _ Try.underlying23 (by decide) Try.underlying9 rfl string_size1 (strV x.a2) rfl ?_))
          go_ret
          exact ⟨by rw [hM.out, decide_eq_false (by omega)]; rfl, hb⟩
      | 3, _ =>
        have h0 := k0 (by omega)
        have h1 := k1 (by omega)
        have h2 := k2 (by omega)
        clear k0 k1 k2
        by_cases h : x.data.length ≤ 16
        · have hI : (x.data.length : Int) ≤ 16 := by omega
          go_wp2
          go_ret
          exact ⟨by rw [hM.out, decide_eq_true ⟨h0, h1, h2, h⟩]; rfl, hb⟩
        · have hI : decide ((x.data.length : Int) ≤ 16) = false := by rw [decide_eq_false_iff_not]; omega
          go_wp2
          go_ret
          exact ⟨by rw [hM.out, decide_eq_false (fun hh => h hh.2.2.2)]; rfl, hb⟩

theorem res_one_built (n : Nat) : Try.prog.built 28 [(0, .int .u8 (n : Int))] = some (resC ⟨n, []⟩) := by kernel_rfl
theorem last_built0 : Try.prog.built 30 [] = some (lastC last0) := by kernel_rfl
theorem isLast_some {l : LastV} (h : l.seq ≠ 0) : isLastM l = (decide (l.r.code ≤ 3) && same tRes l.r ⟨l.r.code, []⟩) := by
  rw [Bool.eq_iff_iff, isLast_is, Bool.and_eq_true, decide_eq_true_iff, same_is]
  obtain ⟨a, b, c⟩ := l
  constructor
  · rintro ⟨h1, h2, _⟩
    have h1 : c = [] := h1
    subst h1
    exact ⟨h2, rfl⟩
  · rintro ⟨h1, h2⟩
    have h2 : ResV.mk b c = ⟨b, []⟩ := h2
    injection h2 with _ h2
    subst h2
    exact ⟨rfl, h1, fun e => absurd e h⟩

set_option maxHeartbeats 4000000 in
theorem isLast_any (l : LastV) (w : World) (hl : LastIn l) : Calls Try.prog 68 #[.agg (lastC l)] w fun en w' => en = .returned (.bool (isLastM l)) ∧ Below w.heap.size w w' := by
  obtain ⟨w1, hw1, hX, hb⟩ := one_var w 30 (lastC l)
  have c0 := (hX.cell 0).trans (show (lastC l)[0]? = some (.int .u32 (l.seq : Int)) from rfl)
  have c1 := (hX.cell 1).trans (show (lastC l)[1]? = some (.int .u8 (l.r.code : Int)) from rfl)
  have hr : w1.rangeAt w.heap.size 1 (resL l.r) := hX.range _ _ fun j v hj => by
    have hj2 : j < 2 := (List.getElem?_eq_some_iff.1 hj).1
    match j, hj2 with
    | 0, _ => exact hj
    | 1, _ => exact hj
  by_cases h0 : l.seq = 0
  · have heq := fun W => eqv_last l last0 hl last0_in W
    rw [same_last0 h0] at heq
    rw [h0] at c0
    replace h0 : Hid _ := h0
    go_enter Try.func68, Try.ntmps68
    go_wp2_with (first
      | (refine wpList_load_has (by rfl) 30 _ rfl w.heap.size rfl 30 (lastC l) _ Try.underlying30 rfl (last_size _) ?hg ?_; (case hg => exact hX))
      | (refine wpList_build_has (by rfl) 30 #[] rfl (lastC last0) (by simpa using last_built0) ?_)
      | (refine wpList_bin_agg (by rfl) .eql 30 _ _ _ rfl (lastC l) (lastC last0) rfl rfl (.bool (isLastM l)) guard_last ?hg ?_; (case hg => exact heq _)))
    go_ret
    exact ⟨rfl, hb⟩
  · have hM : Hid _ := isLast_some h0
    have hI : ((l.seq : Int) == 0) = false := by rw [beq_eq_false_iff_ne]; omega
    have hN : (l.seq == 0) = false := by rw [beq_eq_false_iff_ne]; omega
    have d1 := hl.code
    have d2 := hl.rdata
    have heq := fun W => eqv_res l.r ⟨l.r.code, []⟩ d1 d2 d1 (by show 0 ≤ _; omega) W
    generalize same tRes l.r ⟨l.r.code, []⟩ = sm at *
    by_cases h1 : l.r.code ≤ 3
    · have h1I : (l.r.code : Int) ≤ 3 := by omega
      go_enter Try.func68, Try.ntmps68
      go_wp2_with (first
        | (refine wpList_load_mid' (by rfl) 28 _ rfl w.heap.size 1 rfl (resL l.r) _ ?hg Try.underlying28 rfl (res_size _) ?_; (case hg => exact hr))
        | (refine wpList_build_one (by rfl) 28 0 _ rfl (.int .u8 (l.r.code : Int)) rfl (resC ⟨l.r.code, []⟩) (res_one_built _) ?_)
        | (refine wpList_bin_agg (by rfl) .eql 28 _ _ _ rfl (resC l.r) (resC ⟨l.r.code, []⟩) rfl rfl (.bool sm) guard_res ?hg ?_; (case hg => exact heq _)))
      go_ret
      exact ⟨by rw [hM.out, decide_eq_true h1]; rfl, hb⟩
    · have h1I : ¬ (l.r.code : Int) ≤ 3 := by omega
      go_enter Try.func68, Try.ntmps68
      go_wp2
      go_ret
      exact ⟨by rw [hM.out, decide_eq_false h1]; rfl, hb⟩

theorem objs_at_n (f : Fin 6 → ObjV) (i : Fin 6) : (objsL f).toArray.extract (i.val * 5) (i.val * 5 + 5) = objC (f i) := by
  match i with
  | 0 => rfl
  | 1 => rfl
  | 2 => rfl
  | 3 => rfl
  | 4 => rfl
  | 5 => rfl
theorem lasts_at_n (f : Fin 3 → LastV) (i : Fin 3) : (lastsL f).toArray.extract (i.val * 3) (i.val * 3 + 3) = lastC (f i) := by
  match i with
  | 0 => rfl
  | 1 => rfl
  | 2 => rfl
theorem objs_size (f : Fin 6 → ObjV) : (Try.prog.info? 26).map (·.size) = some (objsL f).length := by show _ = some 30; kernel_rfl
theorem lasts_size (f : Fin 3 → LastV) : (Try.prog.info? 31).map (·.size) = some (lastsL f).length := by show _ = some 9; kernel_rfl
theorem objs_in {w : World} {g : Nat} {b : BaseV} (h : Has w g 33 (baseC b)) : w.rangeAt g 0 (objsL b.obj) := h.range _ _ fun j v hj => by
  have hl : j < 30 := (List.getElem?_eq_some_iff.1 hj).1
  unfold baseC baseL
  rw [List.getElem?_toArray, Nat.zero_add, List.getElem?_append_left (show j < (objsL b.obj).length from hl)]
  exact hj
theorem lasts_in {w : World} {g : Nat} {b : BaseV} (h : Has w g 33 (baseC b)) : w.rangeAt g 30 (lastsL b.last) := h.range _ _ fun j v hj => by
  unfold baseC baseL
  rw [List.getElem?_toArray, List.getElem?_append_right (show (objsL b.obj).length ≤ 30 + j from Nat.le_add_right 30 j), show 30 + j - (objsL b.obj).length = j from Nat.add_sub_cancel_left 30 j]
  exact hj
theorem obj_size5 : (Try.prog.info? 25).map (·.size) = some 5 := by kernel_rfl
theorem last_size3 : (Try.prog.info? 30).map (·.size) = some 3 := by kernel_rfl

set_option maxHeartbeats 4000000 in
theorem isBase_any (b : BaseV) (w : World) (hB0 : BaseIn b) : Calls Try.prog 49 #[.agg (baseC b)] w fun en w' => en = .returned (.bool (isBaseM b)) ∧ Below w.heap.size w w' := by
  obtain ⟨w1, hw1, hX, hb⟩ := one_var w 33 (baseC b)
  have ho := objs_in hX
  have hM : Hid _ := isBase_is b
  go_enter Try.func49, Try.ntmps49
  go_wp2_with (first
    | (refine wpList_load_mid' (by rfl) 26 _ rfl w.heap.size 0 rfl (objsL b.obj) _ ?hg Try.underlying26 rfl (objs_size _) ?_; (case hg => exact ho)))
  go_loopw [9] (fun i wr => ∃ n : Nat, n ≤ 6 ∧ i = .int .i64 n ∧ Has wr w.heap.size 33 (baseC b) ∧ Below w.heap.size w wr ∧ ∀ k : Fin 6, k.val < n → isObjM (b.obj k) = true) (fun i _ => 6 - (intOf i).toNat)
  case atStart => exact ⟨0, by decide, rfl, hX, hb, fun k hk => by omega⟩
  case round =>
    clear hX hb ho
    obtain ⟨n, hn, rfl, hX, hb, hk⟩ := hrel
    by_cases hlt : n < 6
    · have hltI : (n : Int) < 6 := by omega
      have hext : Hid _ := objs_at_n b.obj ⟨n, hlt⟩
      have hin := hB0.obj ⟨n, hlt⟩
      have hor : Hid (∀ k : Fin 6, k.val < n + 1 → k.val < n ∨ k = ⟨n, hlt⟩) := fun k hk => by
        by_cases h : k.val < n
        · exact .inl h
        · exact .inr (Fin.ext (by show k.val = n; omega))
      have hkk : Hid (∀ k : Fin 6, k.val < n → isObjM (b.obj k) = true) := hk
      have hno : Hid (isObjM (b.obj ⟨n, hlt⟩) = false → isBaseM b = false) := fun h => by
        cases hq : isBaseM b with
        | false => rfl
        | true => have := (hM.out.1 hq).1 ⟨n, hlt⟩; rw [h] at this; cases this
      have hyes : Hid (isObjM (b.obj ⟨n, hlt⟩) = true → ∀ k : Fin 6, k.val < n + 1 → isObjM (b.obj k) = true) := fun h k hk => by
        rcases hor.out k hk with h1 | h1
        · exact hkk.out k h1
        · rw [h1]; exact h
      clear hk hor hkk
      generalize b.obj ⟨n, hlt⟩ = y at *
      obtain ⟨w3, hw3, hY, hq⟩ := new_var wr 25 (objC obj0) (objC y)
      replace hX := hX.later hq
      replace hb := hb.trans (hq.mono hb.size)
      clear hq
      go_wp2_with (first
        | (refine wpList_index_row (by rfl) 26 _ _ rfl n (objsL b.obj).toArray rfl rfl 25 6 5 _ Try.underlying26 ?hn Try.underlying25 rfl obj_size5 ?_; (case hn => exact hlt); rw [hext.out])
        | (refine wpList_alloc_has (by rfl) 25 rfl (objC obj0) obj_zero ?_)
        | (refine wpList_store_to (by rfl) 25 _ _ rfl wr.heap.size rfl (objC y) rfl 25 (objC obj0) (obj_size _) rfl (obj_one _) ?hg w3 ?hW ?_; (case hg => exact Has.new _ _ _); (case hW => exact hw3); clear hw3)
        | (refine wpList_load_has (by rfl) 25 _ rfl wr.heap.size rfl 25 (objC y) _ Try.underlying25 rfl (obj_size _) ?hg ?_; (case hg => exact hY)))
      refine (isObject_any y _ hin).mono ?_
      rintro en w4 ⟨rfl, hq⟩
      replace hX := hX.later hq
      replace hb := hb.trans (hq.mono hb.size)
      clear hq
      cases hv : isObjM y with
      | false =>
        have hF : Hid _ := hno.out hv
        go_wp2
        go_ret
        exact ⟨by rw [hF.out]; rfl, hb⟩
      | true =>
        have hF : Hid _ := hyes.out hv
        go_wp2
        go_roundw
        case rel => exact ⟨n + 1, by omega, by go_num, hX, hb, hF.out⟩
        case measure => simp [intOf]; omega
    · have e5 : n = 6 := by omega
      subst e5
      have hall : Hid (∀ k : Fin 6, isObjM (b.obj k) = true) := fun k => hk k k.isLt
      have hl := lasts_in hX
      clear hk hlt hn
      go_wp2_with (first
        | (refine wpList_load_mid' (by rfl) 31 _ rfl w.heap.size 30 rfl (lastsL b.last) _ ?hg Try.underlying31 rfl (lasts_size _) ?_; (case hg => exact hl)))
      go_loopw [18] (fun i wr => ∃ n : Nat, n ≤ 3 ∧ i = .int .i64 n ∧ Below w.heap.size w wr ∧ ∀ k : Fin 3, k.val < n → isLastM (b.last k) = true) (fun i _ => 3 - (intOf i).toNat)
      case atStart => exact ⟨0, by decide, rfl, hb, fun k hk => by omega⟩
      case round =>
        clear hX hb hl
        obtain ⟨n, hn, rfl, hb, hk⟩ := hrel
        by_cases hlt : n < 3
        · have hltI : (n : Int) < 3 := by omega
          have hext : Hid _ := lasts_at_n b.last ⟨n, hlt⟩
          have hin := hB0.last ⟨n, hlt⟩
          have hkk : Hid (∀ k : Fin 3, k.val < n → isLastM (b.last k) = true) := hk
          have hno : Hid (isLastM (b.last ⟨n, hlt⟩) = false → isBaseM b = false) := fun h => by
            cases hq : isBaseM b with
            | false => rfl
            | true => have := (hM.out.1 hq).2 ⟨n, hlt⟩; rw [h] at this; cases this
          have hyes : Hid (isLastM (b.last ⟨n, hlt⟩) = true → ∀ k : Fin 3, k.val < n + 1 → isLastM (b.last k) = true) := fun h k hk => by
            by_cases h1 : k.val < n
            · exact hkk.out k h1
            · rw [show k = ⟨n, hlt⟩ from Fin.ext (by show k.val = n; omega)]; exact h
          clear hk hkk
          generalize b.last ⟨n, hlt⟩ = y at *
          obtain ⟨w3, hw3, hY, hq⟩ := new_var wr 30 (lastC last0) (lastC y)
          replace hb := hb.trans (hq.mono hb.size)
          clear hq
          go_wp2_with (first
            | (refine wpList_index_row (by rfl) 31 _ _ rfl n (lastsL b.last).toArray rfl rfl 30 3 3 _ Try.underlying31 ?hn Try.underlying30 rfl last_size3 ?_; (case hn => exact hlt); rw [hext.out])
            | (refine wpList_alloc_has (by rfl) 30 rfl (lastC last0) last_zero ?_)
            | (refine wpList_store_to (by rfl) 30 _ _ rfl wr.heap.size rfl (lastC y) rfl 30 (lastC last0) (last_size _) rfl (last_one _) ?hg w3 ?hW ?_; (case hg => exact Has.new _ _ _); (case hW => exact hw3); clear hw3)
            | (refine wpList_load_has (by rfl) 30 _ rfl wr.heap.size rfl 30 (lastC y) _ Try.underlying30 rfl (last_size _) ?hg ?_; (case hg => exact hY)))
          refine (isLast_any y _ hin).mono ?_
          rintro en w4 ⟨rfl, hq⟩
          replace hb := hb.trans (hq.mono hb.size)
          clear hq
          cases hv : isLastM y with
          | false =>
            have hF : Hid _ := hno.out hv
            go_wp2
            go_ret
            exact ⟨by rw [hF.out]; rfl, hb⟩
          | true =>
            have hF : Hid _ := hyes.out hv
            go_wp2
            go_roundw
            case rel => exact ⟨n + 1, by omega, by go_num, hb, hF.out⟩
            case measure => simp [intOf]; omega
        · have e5 : n = 3 := by omega
          subst e5
          have hF : Hid (isBaseM b = true) := hM.out.2 ⟨hall.out, fun k => hk k k.isLt⟩
          go_wp2
          go_ret
          exact ⟨by rw [hF.out]; rfl, hb⟩
end Go.Proofs.Ytphlfepgaghhhaa
