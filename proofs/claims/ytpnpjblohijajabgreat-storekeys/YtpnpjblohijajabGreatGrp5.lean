/- DiskIo, DiskRw, joined. -/
import Derived.Test.YtpnpjblohijajabGreatGrp4
import Derived.Laws.CopyRow
namespace Go.Proofs.YtpnpjblohijajabGreat
section
set_option linter.unusedSimpArgs false
set_option linter.unusedVariables false
set_option maxRecDepth 100000
open Go.RowKit Go.MapKept

theorem sec_zeroI : (Tryz.prog.info? 66).map (·.zero) = some (some (.agg (secC sec0))) := by kernel_rfl
theorem sec_one (s : List UInt8) : (secC s).all (·.oneCell') = true := by
  unfold secC
  rw [List.all_toArray, List.all_eq_true]
  exact Bs_one s
theorem secC_same (s t : List UInt8) (hs : s.length = 64) (ht : t.length = 64) : (secC s).size = (secC t).size := by rw [secC_size, secC_size, hs, ht]
/-- Bytes laid over others, at a place. -/
def overB (old : List UInt8) (o : Nat) (ys : List UInt8) : List UInt8 := old.take o ++ ys ++ old.drop (o + ys.length)
theorem overB_length (old : List UInt8) (o : Nat) (ys : List UInt8) (h : o + ys.length ≤ old.length) : (overB old o ys).length = old.length := by
  unfold overB
  rw [List.length_append, List.length_append, List.length_take, List.length_drop]
  omega
theorem overB_zero (old ys : List UInt8) : overB old 0 ys = ys ++ old.drop ys.length := by
  unfold overB
  rw [List.take_zero, List.nil_append, Nat.zero_add]
theorem Bs_take (a : List UInt8) (k : Nat) : Bs (a.take k) = (Bs a).take k := by unfold Bs; rw [List.map_take]
theorem Bs_drop (a : List UInt8) (k : Nat) : Bs (a.drop k) = (Bs a).drop k := by unfold Bs; rw [List.map_drop]
theorem Bs_over (old : List UInt8) (o : Nat) (ys : List UInt8) : Bs (overB old o ys) = (Bs old).take o ++ Bs ys ++ (Bs old).drop (o + ys.length) := by
  unfold overB
  rw [Bs_append, Bs_append, Bs_take, Bs_drop]
theorem byteI : ∃ i, Tryz.prog.info? 5 = some i ∧ i.size = 1 := by
  have h : (Tryz.prog.info? 5).map (fun i => decide (i.size = 1)) = some true := by kernel_rfl
  cases hi : Tryz.prog.info? 5 with
  | none => rw [hi] at h; cases h
  | some i =>
    rw [hi] at h
    exact ⟨i, rfl, by simpa using h⟩
/-- Bytes copied into a block of bytes. -/
theorem run_copyB (w : World) (ty t : TypeId) (g off dLen dCap : Nat) (sp : Option Addr) (k sCap m : Nat) (old xs : List UInt8) (h : By w sp sCap xs) (hk : k = xs.length) (hg : Has w g t (Bs old).toArray) (hm : min k dLen = m) (hfit : off + m ≤ old.length) :
    (Builtin.copy_ #[60, 60] ty #[.slice (some ⟨g, off, none⟩) dLen dCap, .slice sp k sCap]).run Tryz.prog w = .ok (goInt m) (w.setRow g (Bs (overB old off (xs.take m))).toArray) := by
  obtain ⟨i, hq, hi⟩ := byteI
  subst hk
  have hmin : Nat.min xs.length dLen = m := hm
  have hml : m ≤ xs.length := by omega
  have hlen : (xs.take m).length = m := by rw [List.length_take]; omega
  by_cases h0 : m = 0
  · subst h0
    have hw : w.setRow g (Bs (overB old off (xs.take 0))).toArray = w := by
      have e : overB old off (xs.take 0) = old := by
        unfold overB
        rw [List.take_zero, List.append_nil, List.length_nil, Nat.add_zero, List.take_append_drop]
      rw [e]
      exact setRow_self w g _ t (0, 0) hg
    rw [hw]
    have hl : ∀ (x : Addr), (loadCells x 0).run Tryz.prog w = .ok #[] w := fun x => by simpa using run_loadCells_list (P := Tryz.prog) w x [] (by simp)
    cases sp <;> simp [Builtin.copy_, run_underlying Tryz.underlying60, Builtin.lenOf, Builtin.firstCells, sizeOf, typeInfo, hq, hi, hmin, storeCells, hl]
  · cases sp with
    | none => have := h.nil rfl; have := h.le; omega
    | some ad =>
      have hl := run_loadCells_list (P := Tryz.prog) w ad (Bs (xs.take m)) (fun j v hj => h.at' ad rfl j v (by
        rw [Bs_take, List.getElem?_take] at hj
        split at hj
        · exact hj
        · cases hj))
      have hst := run_storeCells_at Tryz.prog g off t (Bs (xs.take m)) 0 (Bs old).toArray w hg (by rw [Bs_length, hlen, List.size_toArray, Bs_length]; omega) (Bs_one _)
      rw [Bs_length, hlen] at hl
      have e : (Bs (overB old off (xs.take m))).toArray = ((Bs old).toArray.toList.take (off + 0) ++ Bs (xs.take m) ++ (Bs old).toArray.toList.drop (off + 0 + (Bs (xs.take m)).length)).toArray := by
        rw [Bs_over]
        simp [Bs_length]
      rw [e]
      simp [Builtin.copy_, run_underlying Tryz.underlying60, Builtin.lenOf, Builtin.firstCells, sizeOf, typeInfo, hq, hi, hmin, hl]
      simp at hst
      rw [hst]
      simp [Result.andThen]
theorem wpList_copyB {ops : Array Oper} {rest : List Oper} {o : Oper} {a : Act} {w : World} {Q : Exit → Act → World → Prop} (hgd : o.guard = none) (d s : Operand)
    (ho : o.op = .call { callee := .builtin .copy, args := #[d, s], argTypes := #[60, 60] }) (t : TypeId) (g off dLen dCap : Nat) (sp : Option Addr) (k sCap m : Nat) (old xs : List UInt8)
    (hdv : a.eval d = .slice (some ⟨g, off, none⟩) dLen dCap) (hsv : a.eval s = .slice sp k sCap) (h : By w sp sCap xs) (hk : k = xs.length) (hg : Has w g t (Bs old).toArray) (hm : min k dLen = m) (hfit : off + m ≤ old.length)
    (W : World) (hW : w.setRow g (Bs (overB old off (xs.take m))).toArray = W) (hK : wpList Tryz.prog ops Q rest (a.put o.dst (.int .i64 (m : Int))) W) : wpList Tryz.prog ops Q (o :: rest) a w := by
  refine wpList_plain hgd fun K hK' => ?_
  have hr := run_copyB w o.type t g off dLen dCap sp k sCap m old xs h hk hg hm hfit
  unfold Oper.wp
  simp [execOp, ho, resolve, invoke, builtin, hdv, hsv, hr, Result.andThen]
  rw [hW]
  exact hK' _ _ hK
theorem Has.over {w : World} {g : Nat} {t : TypeId} {old : List UInt8} (h : Has w g t (Bs old).toArray) (ys : List UInt8) : Has (w.setRow g (Bs ys).toArray) g t (Bs ys).toArray := h.row _
theorem Has.kept_at {w : World} {kb n i : Nat} {D : List UInt8} (h : Has w kb 66 (Bs D).toArray) (hD : D.length = 64 * n) (hi : i < n) : w.rangeAt kb (i * 64) (Bs (sec D i)) := fun j v hv => by
  have := sec_dat h hD hi j v hv
  rw [Addr.add_mid] at this
  rw [Nat.mul_comm]
  exact this
/-- A block of bytes reads as bytes. -/
theorem By.ofBlock {w : World} {g : Nat} {t : TypeId} {s : List UInt8} (h : Has w g t (Bs s).toArray) (hl : s.length ≤ 1000000000) : By w (some ⟨g, 0, none⟩) s.length s where
  le := Nat.le_refl _
  cap := by omega
  nil := fun h => by cases h
  at' := fun ad had j v hv => by
    cases had
    rw [Addr.add_mid, h.cell, List.getElem?_toArray, Nat.zero_add]
    exact hv
theorem written_len {w : World} {p kb mb n i : Nat} {d : DskV} (h : DiskAt w p kb mb n d) (hi : i < n) : (writtenM d i).length = 64 := by
  unfold writtenM
  cases hf : findP d.pend i with
  | none => exact sec_length h.len hi
  | some s =>
    unfold findP at hf
    rw [Option.map_eq_some_iff] at hf
    obtain ⟨x, hx, rfl⟩ := hf
    exact (h.sect x (List.mem_of_find?_eq_some hx)).2
set_option maxHeartbeats 2000000 in
theorem written_any (p kb mb n i : Nat) (d : DskV) (w : World) (h : DiskAt w p kb mb n d) (hi : i < n) :
    Calls Tryz.prog 118 #[.pointer (some ⟨p, 0, none⟩), .int .i64 (i : Nat)] w fun e w' => e = .returned (.agg (secC (writtenM d i))) ∧ Below w.heap.size w w' := by
  have hwl := written_len h hi
  obtain ⟨w1, hw1, hR, hb1⟩ := one_var w 66 (secC sec0)
  have h1 := h.later hb1
  have hn1 := h.n1
  clear h
  obtain ⟨st, hX⟩ := h1.disk
  have c0 : w1.cell? ⟨p, 0, none⟩ = some (.slice (some ⟨kb, 0, none⟩) n n) := (hX.cell 0).trans rfl
  have c1 : w1.cell? ⟨p, 1, none⟩ = some (.map (some mb)) := (hX.cell 1).trans rfl
  have hP := h1.pend
  have hs0 : sec0.length = 64 := by decide
  cases hf : findP d.pend i with
  | some s =>
    have hW : writtenM d i = s := by unfold writtenM; rw [hf]; rfl
    rw [hW] at hwl ⊢
    have hv : (findP d.pend i).getD sec0 = s := by rw [hf]; rfl
    have hy : (findP d.pend i).isSome = true := by rw [hf]; rfl
    obtain ⟨w2, hw2, hS, hq⟩ := new_var w1 66 (secC sec0) (secC s)
    have hR2 := hR.later hq
    have hb2 := hb1.trans (hq.mono hb1.size)
    have hRf := hR2.row (secC s)
    have hE : Hid (Below w.heap.size w (w2.setRow w.heap.size (secC s))) := below_setRow hb2 (Nat.le_refl _) _
    replace hv : Hid _ := hv
    replace hy : Hid _ := hy
    have hP : Hid _ := hP
    have z1 : Hid _ := sec_size s hwl
    have z2 : Hid _ := sec_one s
    have z3 : Hid _ := secC_same s sec0 hwl hs0
    clear h1 hX hf hW hR hb1 hq hb2
    go_enter Tryz.func118, Tryz.ntmps118
    go_wp2_with (first
      | (refine wpList_alloc_has (by rfl) 66 rfl (secC sec0) sec_zeroI ?_; first | (rw [hw1]; clear hw1) | skip)
      | (refine wpList_lookP (by rfl) _ _ rfl rfl i rfl hP.out s true hv.out hy.out ?_)
      | (refine wpList_store_to (by rfl) 66 _ _ rfl w1.heap.size rfl (secC s) rfl 66 (secC sec0) z1.out z3.out.symm z2.out ?hg w2 ?hW ?_; (case hg => exact Has.new _ _ _); (case hW => exact hw2); clear hw2)
      | (refine wpList_load_has (by rfl) 66 _ rfl w1.heap.size rfl 66 (secC s) _ Tryz.underlying66 rfl z1.out ?hg ?_; (case hg => exact hS))
      | (refine wpList_store_to (by rfl) 66 _ _ rfl w.heap.size rfl (secC s) rfl 66 (secC sec0) z1.out z3.out.symm z2.out ?hg _ rfl ?_; (case hg => exact hR2))
      | fail)
    exact ret_has rfl w.heap.size rfl 66 (secC s) _ Tryz.underlying66 rfl z1.out hRf rfl ⟨rfl, hE.out⟩
  | none =>
    have hW : writtenM d i = sec d.dat i := by unfold writtenM; rw [hf]; rfl
    rw [hW] at hwl ⊢
    have hv : (findP d.pend i).getD sec0 = sec0 := by rw [hf]; rfl
    have hy : (findP d.pend i).isSome = false := by rw [hf]; rfl
    obtain ⟨w2, hw2, hS, hq⟩ := new_var w1 66 (secC sec0) (secC sec0)
    have hR2 := hR.later hq
    have hb2 := hb1.trans (hq.mono hb1.size)
    have hkr := (h1.dat.later hq).kept_at h1.len hi
    have d0 : w2.cell? ⟨p, 0, none⟩ = some (.slice (some ⟨kb, 0, none⟩) n n) := ((hX.later hq).cell 0).trans rfl
    obtain ⟨s, hs⟩ : ∃ s, sec d.dat i = s := ⟨_, rfl⟩
    rw [hs] at hkr hwl ⊢
    have hRf := hR2.row (secC s)
    have hE : Hid (Below w.heap.size w (w2.setRow w.heap.size (secC s))) := below_setRow hb2 (Nat.le_refl _) _
    have hiI : (i : Int) < (n : Int) := by omega
    have hi0 : (0 : Int) ≤ (i : Int) := by omega
    replace hv : Hid _ := hv
    replace hy : Hid _ := hy
    have hP : Hid _ := hP
    have z1 : Hid _ := sec_size s hwl
    have z2 : Hid _ := sec_one s
    have z3 : Hid _ := secC_same s sec0 hwl hs0
    have y1 : Hid _ := sec_size sec0 hs0
    have y2 : Hid _ := sec_one sec0
    have z4 : Hid ((Tryz.prog.info? 66).map (·.size) = some (Bs s).length) := by show _ = _; rw [Bs_length, hwl]; kernel_rfl
    clear h1 hX hf hW hR hb1 hq hb2
    go_enter Tryz.func118, Tryz.ntmps118
    go_wp2_with (first
      | (refine wpList_alloc_has (by rfl) 66 rfl (secC sec0) sec_zeroI ?_; first | (rw [hw1]; clear hw1) | skip)
      | (refine wpList_lookP (by rfl) _ _ rfl rfl i rfl hP.out sec0 false hv.out hy.out ?_)
      | (refine wpList_store_to (by rfl) 66 _ _ rfl w1.heap.size rfl (secC sec0) rfl 66 (secC sec0) y1.out rfl y2.out ?hg w2 ?hW ?_; (case hg => exact Has.new _ _ _); (case hW => exact hw2); clear hw2)
      | (refine wpList_load_mid' (by rfl) 66 _ rfl kb (i * 64) rfl (Bs s) _ ?hg Tryz.underlying66 rfl z4.out ?_; (case hg => exact hkr))
      | (refine wpList_store_to (by rfl) 66 _ _ rfl w.heap.size rfl (secC s) rfl 66 (secC sec0) z1.out z3.out.symm z2.out ?hg _ rfl ?_; (case hg => exact hR2))
      | fail)
    exact ret_has rfl w.heap.size rfl 66 (secC s) _ Tryz.underlying66 rfl z1.out hRf rfl ⟨rfl, hE.out⟩
end

section
set_option linter.unusedSimpArgs false
set_option linter.unusedVariables false
set_option maxRecDepth 100000
open Go.RowKit Go.MapKept

theorem bytes_has {w : World} {b g n : Nat} {xs : List UInt8} (hn : n = xs.length) (h : w.ownsRow b 5 1 (.slice (some ⟨g, 0, none⟩) n n) n (Bs xs)) : Has w g 5 (Bs xs).toArray := by
  rcases h.2 with ⟨hv, _⟩ | ⟨g', cap, cur, hv, hg, hc, hle, hm, hs, hx⟩
  · cases hv
  · injection hv with h1 h2 h3
    injection h1 with h1
    injection h1 with h1
    subst h1
    unfold Has
    rw [hc]
    congr 1
    congr 1
    rw [List.take_of_length_le (by rw [Array.length_toList, hs, ← h3]; exact Nat.le_refl _)] at hx
    rw [← hx]
theorem own_of_has {w : World} {b g n : Nat} {xs : List UInt8} (hn : n = xs.length) (hb : b ≤ g) (hl : n ≤ 1000000000) (h : Has w g 5 (Bs xs).toArray) : w.ownsRow b 5 1 (.slice (some ⟨g, 0, none⟩) n n) n (Bs xs) := by
  refine ⟨by rw [Bs_length, hn, Nat.mul_one], .inr ⟨g, n, (Bs xs).toArray, rfl, hb, h, Nat.le_refl _, by unfold maxLen; omega, by rw [List.size_toArray, Bs_length, hn, Nat.mul_one], ?_⟩⟩
  show (Bs xs).toArray.toList.take (n * 1) = Bs xs
  rw [List.take_of_length_le (by rw [Array.length_toList, List.size_toArray, Bs_length]; omega)]
theorem made0 (n : Nat) : (madeCells (Value.int .u8 0).cells (n * 1)).toList = Bs (List.replicate n 0) := by
  apply List.ext_getElem?
  intro i
  unfold madeCells Bs
  simp only [Array.toList_map, Array.toList_range, Nat.mul_one]
  rw [List.getElem?_map, List.getElem?_map]
  by_cases h : i < n
  · rw [List.getElem?_range h, List.getElem?_replicate, if_pos h]
    show some ((Value.int .u8 0).cells[i % 1]!) = some (B 0)
    rw [Nat.mod_one]
    rfl
  · rw [List.getElem?_eq_none (by simpa using h), List.getElem?_eq_none (by simpa using h)]
    rfl
theorem byte_full : ∃ i, Tryz.prog.info? 5 = some i ∧ i.zero = some (.int .u8 0) ∧ i.size = 1 ∧ i.bytes = 1 := by
  have h : (Tryz.prog.info? 5).map (fun i => (i.zero, decide (i.size = 1 ∧ i.bytes = 1))) = some (some (.int .u8 0), true) := by kernel_rfl
  cases hi : Tryz.prog.info? 5 with
  | none => rw [hi] at h; cases h
  | some i =>
    rw [hi] at h
    simp only [Option.map_some, Option.some.injEq, Prod.mk.injEq, decide_eq_true_eq] at h
    exact ⟨i, rfl, h.1, h.2.1, h.2.2⟩
theorem over_all (old ys : List UInt8) (h : ys.length = old.length) : overB old 0 ys = ys := by
  rw [overB_zero, h, List.drop_length, List.append_nil]
set_option maxHeartbeats 2000000 in
theorem dread_off (p kb mb n i : Nat) (d : DskV) (w : World) (h : DiskAt w p kb mb n d) (ho : d.off = true) :
    Calls Tryz.prog 88 #[.pointer (some ⟨p, 0, none⟩), .int .i64 (i : Nat)] w fun e w' => e = .returned (.tuple #[.slice none 0 0, .int .i64 131]) ∧ w' = w := by
  obtain ⟨st, hX⟩ := h.disk
  have c4 : w.cell? ⟨p, 4, none⟩ = some (.bool true) := by rw [← ho]; exact (hX.cell 4).trans rfl
  clear h hX
  go_enter Tryz.func88, Tryz.ntmps88
  go_wp2
  go_ret2
  exact ⟨rfl, rfl⟩
set_option maxHeartbeats 4000000 in
theorem dread_on (p kb mb n i : Nat) (d : DskV) (w : World) (h : DiskAt w p kb mb n d) (ho : d.off = false) (hi : i < n) :
    Calls Tryz.prog 88 #[.pointer (some ⟨p, 0, none⟩), .int .i64 (i : Nat)] w fun e w' => ∃ g, w.heap.size ≤ g ∧ e = .returned (.tuple #[.slice (some ⟨g, 0, none⟩) 64 64, .int .i64 0]) ∧ Has w' g 5 (Bs (writtenM d i)).toArray ∧ Below w.heap.size w w' := by
  have hwl := written_len h hi
  obtain ⟨st, hX⟩ := h.disk
  have c4 : w.cell? ⟨p, 4, none⟩ = some (.bool false) := by rw [← ho]; exact (hX.cell 4).trans rfl
  have hh := has_any p kb mb n i d w h hi
  have hw := written_any p kb mb n i d w h hi
  obtain ⟨s, hs⟩ : ∃ s, writtenM d i = s := ⟨_, rfl⟩
  rw [hs] at hw hwl ⊢
  replace hh : Hid _ := hh
  replace hw : Hid _ := hw
  clear h hX
  have hs0 : sec0.length = 64 := by decide
  have z1 : Hid _ := sec_size s hwl
  have z2 : Hid _ := sec_one s
  have z3 : Hid _ := secC_same s sec0 hwl hs0
  go_enter Tryz.func88, Tryz.ntmps88
  go_wp2_with fail
  refine Calls.mono hh.out ?_
  rintro e w1 ⟨rfl, rfl⟩
  clear hh
  go_wp2_with fail
  refine Calls.mono hw.out ?_
  rintro e w2 ⟨rfl, hq⟩
  clear hw c4
  obtain ⟨w3, hw3, hS, hq3⟩ := new_var w2 66 (secC sec0) (secC s)
  have hb3 : Below w1.heap.size w1 w3 := hq.trans (hq3.mono hq.size)
  have hsz : w1.heap.size ≤ w3.heap.size := hb3.size
  obtain ⟨i0, hi0, hz0, hz1, hz2⟩ := byte_full
  clear hq hq3
  go_wp2_with (first
    | (refine wpList_alloc_has (by rfl) 66 rfl (secC sec0) sec_zeroI ?_)
    | (refine wpList_store_to (by rfl) 66 _ _ rfl w2.heap.size rfl (secC s) rfl 66 (secC sec0) z1.out z3.out.symm z2.out ?hg w3 ?hW ?_; (case hg => exact Has.new _ _ _); (case hW => exact hw3); clear hw3)
    | (refine wpList_make_full _ rfl _ _ 60 rfl w3.heap.size 5 i0 (.int .u8 0) 1 Tryz.underlying60 hi0 hz0 hz1 _ _ _ _ 64 rfl rfl rfl rfl (by rw [hz2]; omega) (by unfold maxLen; omega) (Nat.le_refl _) ?_)
    | fail)
  intro w4 hown hgrow
  have hb4 : Below w3.heap.size w3 w4 := (Below.refl w3.heap.size w3).grown hgrow (Nat.le_refl _) (fun k hk => by cases hk)
  replace hown : w4.ownsRow w3.heap.size 5 1 (.slice (some ⟨w3.heap.size, 0, none⟩) 64 64) 64 (madeCells (Value.int .u8 0).cells (64 * 1)).toList := hown
  rw [made0] at hown
  have hG : Has w4 w3.heap.size 5 (Bs (List.replicate 64 0)).toArray := bytes_has (by simp) hown
  have hS4 := hS.later hb4
  have hB : By w4 (some ⟨w2.heap.size, 0, none⟩) 64 s := by rw [← hwl]; exact By.ofBlock (t := 66) hS4 (by omega)
  have hb5 : Below w1.heap.size w1 (w4.setRow w3.heap.size (Bs s).toArray) := below_setRow (hb3.trans (hb4.mono hsz)) hsz _
  have hR := hG.row (Bs s).toArray
  obtain ⟨w5, hw5⟩ : ∃ W, w4.setRow w3.heap.size (Bs s).toArray = W := ⟨_, rfl⟩
  rw [hw5] at hb5 hR
  have hov : overB (List.replicate 64 0) 0 (s.take 64) = s := by
    rw [List.take_of_length_le (by omega)]
    exact over_all _ _ (by simp [hwl])
  have hw5' : Hid (w4.setRow w3.heap.size (Bs (overB (List.replicate 64 0) 0 (s.take 64))).toArray = w5) := by show _ = _; rw [hov]; exact hw5
  replace hb5 : Hid _ := hb5
  replace hwl : Hid _ := hwl
  clear hown hgrow hb3 hb4 hS4 hS hov hw5
  go_wp2_with (first
    | (refine wpList_copyB rfl _ _ rfl 5 w3.heap.size 0 64 64 (some ⟨w2.heap.size, 0, none⟩) 64 64 64 (List.replicate 64 0) s rfl rfl hB hwl.out.symm hG rfl ?hf w5 ?hW ?_; (case hf => simp); (case hW => exact hw5'.out))
    | fail)
  go_ret2
  exact ⟨w3.heap.size, hsz, rfl, hR, hb5.out⟩
abbrev DF (p kb mb : Nat) : Nat → Prop := fun k => k = p ∨ k = kb ∨ k = mb
theorem OffF.more {F G : Nat → Prop} {w w' : World} (h : OffF F w w') (hg : ∀ k, F k → G k) : OffF G w w' := ⟨h.os, h.tape, h.output, h.size, fun k hk hn => h.block k hk (fun hf => hn (hg k hf))⟩
theorem offPut {F : Nat → Prop} (w : World) {b : Nat} (o : Obj) (hb : F b) : OffF F w (putBlock w b o) := ⟨rfl, rfl, rfl, by rw [putBlock_size]; exact Nat.le_refl _, fun k hk hn => putBlock_other w o (fun z => hn (z ▸ hb))⟩
theorem find_none_ne {l : PendL} {i : Nat} (h : findP l i = none) : i ∉ l.map (·.1) := by
  intro hm
  obtain ⟨x, hx, rfl⟩ := List.mem_map.1 hm
  unfold findP at h
  rw [Option.map_eq_none_iff, List.find?_eq_none] at h
  have := h x hx
  simp at this
theorem By.same {a b : World} {ao : Option Addr} {c : Nat} {xs : List UInt8} (h : By a ao c xs) (k : ∀ ad, ao = some ad → b.heap[ad.block]? = a.heap[ad.block]?) : By b ao c xs := by
  refine ⟨h.le, h.cap, h.nil, fun ad had j u hu => ?_⟩
  have e : (ad.add j).block = ad.block := by unfold Addr.add; split <;> rfl
  rw [World.cell?_of_block (w := a) (by rw [e]; exact k ad had)]
  exact h.at' ad had j u hu
theorem dwrite_off (p kb mb n i : Nat) (ao : Option Addr) (k c : Nat) (d : DskV) (w : World) (h : DiskAt w p kb mb n d) (ho : (stepM d).off = true) :
    Calls Tryz.prog 93 #[.pointer (some ⟨p, 0, none⟩), .int .i64 (i : Nat), .slice ao k c] w fun e w' => e = .returned (.int .i64 131) ∧ DiskAt w' p kb mb n (stepM d) ∧ But p w w' := by
  have hs := step_any p kb mb n d w h
  rw [show errM (stepM d) = 131 by unfold errM; rw [ho]; rfl] at hs
  replace hs : Hid _ := hs
  clear h
  go_enter Tryz.func93, Tryz.ntmps93
  go_wp2_with fail
  refine Calls.mono hs.out ?_
  rintro e w1 ⟨rfl, h1, hb⟩
  clear hs
  go_wp2
  go_ret
  exact ⟨rfl, h1, hb⟩
set_option maxHeartbeats 4000000 in
theorem dwrite_on (p kb mb n i : Nat) (ao : Option Addr) (k c : Nat) (xs : List UInt8) (d : DskV) (w : World) (h : DiskAt w p kb mb n d) (ho : (stepM d).off = false) (hi : i < n) (hB : By w ao c xs) (hk : k = xs.length) (hk64 : k ≤ 64) (hnp : ∀ ad, ao = some ad → ad.block ≠ p) (hlt : ∀ ad, ao = some ad → ad.block < w.heap.size) (hf : findP d.pend i = none) :
    Calls Tryz.prog 93 #[.pointer (some ⟨p, 0, none⟩), .int .i64 (i : Nat), .slice ao k c] w fun e w' => e = .returned (.int .i64 0) ∧ DiskAt w' p kb mb n ⟨d.dat, d.pend ++ [(i, overB (sec d.dat i) 0 xs)], (stepM d).left, false⟩ ∧ OffF (DF p kb mb) w w' := by
  have hs := step_any p kb mb n d w h
  rw [show errM (stepM d) = 0 by unfold errM; rw [ho]; rfl] at hs
  have hlen := h.len
  have hsl : (sec d.dat i).length = 64 := sec_length h.len hi
  have hpl := h.disk
  have hap := h.apart
  have hse := h.sect
  have hn0 := h.n0
  have hn1 := h.n1
  obtain ⟨D2, hD2⟩ : ∃ D2, stepM d = D2 := ⟨_, rfl⟩
  have hdat : D2.dat = d.dat := by rw [← hD2]; exact stepM_dat d
  have hpend : D2.pend = d.pend := by rw [← hD2]; exact stepM_pend d
  rw [hD2] at hs ho ⊢
  have hW : writtenM D2 i = sec d.dat i := by unfold writtenM; rw [hpend, hf, hdat]; rfl
  replace hs : Hid _ := hs
  have hov : ∀ s : List UInt8, overB s 0 (xs.take k) = overB s 0 xs := fun s => by rw [List.take_of_length_le (by omega)]
  have hol : ∀ s : List UInt8, s.length = 64 → (overB s 0 xs).length = 64 ∧ 0 + k ≤ s.length := fun s hl => ⟨by rw [overB_length _ _ _ (by omega)]; exact hl, by omega⟩
  replace hk : Hid _ := hk
  replace hov : Hid _ := hov
  replace hol : Hid _ := hol
  clear hD2
  go_enter Tryz.func93, Tryz.ntmps93
  go_wp2_with fail
  refine Calls.mono hs.out ?_
  rintro e w1 ⟨rfl, h1, hb1⟩
  clear hs h
  have hB1 : By w1 ao c xs := hB.same (fun ad had => hb1.block _ (hlt ad had) (hnp ad had))
  have hsz1 := hb1.size
  have hlt1 : ∀ ad, ao = some ad → ad.block < w1.heap.size := fun ad had => Nat.lt_of_lt_of_le (hlt ad had) hsz1
  have hh := has_any p kb mb n i D2 w1 h1 hi
  have hw := written_any p kb mb n i D2 w1 h1 hi
  rw [hW] at hw
  replace hh : Hid _ := hh
  replace hw : Hid _ := hw
  have hkI : ¬ (64 : Int) < (k : Int) := by omega
  clear hB hlt
  go_wp2_with fail
  refine Calls.mono hh.out ?_
  rintro e w2 ⟨rfl, rfl⟩
  clear hh
  go_wp2_with fail
  refine Calls.mono hw.out ?_
  rintro e w3 ⟨rfl, hq⟩
  clear hw
  obtain ⟨s, hs⟩ : ∃ s, sec d.dat i = s := ⟨_, rfl⟩
  rw [hs] at hsl ⊢
  have hs0 : sec0.length = 64 := by decide
  have z1 : Hid _ := sec_size s hsl
  have z2 : Hid _ := sec_one s
  have z3 : Hid _ := secC_same s sec0 hsl hs0
  obtain ⟨w4, hw4, hS, hq4⟩ := new_var w3 66 (secC sec0) (secC s)
  have hq24 : Below w2.heap.size w2 w4 := hq.trans (hq4.mono hq.size)
  have h4 := h1.later hq24
  have hB4 := hB1.later hq24
  have hsz4 : w2.heap.size ≤ w3.heap.size := hq.size
  have hfit : Hid (0 + k ≤ s.length) := (hol.out s hsl).2
  replace hol : (overB s 0 xs).length = 64 := (hol.out s hsl).1
  have hS5 := hS.row (Bs (overB s 0 xs)).toArray
  have h5 : DiskAt (w4.setRow w3.heap.size (Bs (overB s 0 xs)).toArray) p kb mb n D2 := by
    have hp := h1.disk
    obtain ⟨st, hX⟩ := hp
    have g1 := hX.lt
    have g2 := h1.dat.lt
    have g3 := h1.pend.lt
    exact h4.offs (OffF.but (but_row _ _)) (fun z => by have : p = w3.heap.size := z; omega) (fun z => by have : kb = w3.heap.size := z; omega) (fun z => by have : mb = w3.heap.size := z; omega)
  have ho5 : Hid (OffF (DF p kb mb) w (w4.setRow w3.heap.size (Bs (overB s 0 xs)).toArray)) := by
    have e1 : OffF (DF p kb mb) w w2 := (OffF.but hb1).more (fun k hk => .inl hk)
    have e2 := e1.trans (OffF.of hq24)
    have e3 : But w3.heap.size w4 (w4.setRow w3.heap.size (Bs (overB s 0 xs)).toArray) := but_row _ _
    exact ⟨e3.os.trans e2.os, e3.tape.trans e2.tape, e3.output.trans e2.output, Nat.le_trans e2.size e3.size, fun k hk hn => (e3.block k (Nat.lt_of_lt_of_le hk e2.size) (by omega)).trans (e2.block k hk hn)⟩
  obtain ⟨w5, hw5⟩ : ∃ W, w4.setRow w3.heap.size (Bs (overB s 0 xs)).toArray = W := ⟨_, rfl⟩
  rw [hw5] at hS5 h5 ho5
  have hw5' : Hid (w4.setRow w3.heap.size (Bs (overB s 0 (xs.take k))).toArray = w5) := by show _ = _; rw [hov.out]; exact hw5
  have hmin : Hid (min k 64 = k) := by show _ = _; omega
  clear hw5 hov hb1 hB1 h1 h4 hq hq4 hq24
  go_wp2_with (first
    | (refine wpList_alloc_has (by rfl) 66 rfl (secC sec0) sec_zeroI ?_)
    | (refine wpList_store_to (by rfl) 66 _ _ rfl w3.heap.size rfl (secC s) rfl 66 (secC sec0) z1.out z3.out.symm z2.out ?hg w4 ?hW ?_; (case hg => exact Has.new _ _ _); (case hW => exact hw4); clear hw4)
    | (refine wpList_copyB rfl _ _ rfl 66 w3.heap.size 0 64 64 ao k c k s xs rfl rfl hB4 hk.out hS hmin.out hfit.out w5 ?hW ?_; (case hW => exact hw5'.out))
    | fail)
  clear hw5' hB4 hS
  have z5 : Hid _ := sec_size (overB s 0 xs) hol
  have h6 := h5.drew
  have hS6 := hS5.drew
  have ho6 : Hid (OffF (DF p kb mb) w w5.drew) := ho5.out.trans (OffF.of (Below.refl _ _).drew)
  obtain ⟨st, hX⟩ := h6.disk
  have hpm := h6.pm
  have hnm : w3.heap.size ≠ mb := by
    intro z
    have := hS6.not_map h6.pend
    exact this z
  refine wp_region_plan (fun W => Has W p 47 (diskC kb mb n st D2.left D2.off) ∧ Has W w3.heap.size 66 (secC (overB s 0 xs))) (Plan.of [(0, true), (1, true), (2, true), (3, true), (4, true), (5, true), (6, false)] .done) (by kernel_rfl) (by kernel_rfl) (by kernel_rfl) (by kernel_rfl) ⟨hX, hS6⟩ ?_
  generalize w5.drew = w6 at *
  iterate 3
    first
      | (refine plan_pass _ rfl (by rfl) ?_)
      | (refine plan_take _ _ rfl (.inl ⟨by rfl, fun W hS => by clear hS; go_simp; try with_reducible rfl⟩) ?_)
    try simp only [Act.put, List.setIfInBounds_toArray, List.set_cons_zero, List.set_cons_succ]
  iterate 1
    first
      | (refine plan_pass _ rfl (by rfl) ?_)
      | (refine plan_take _ _ rfl (.inl ⟨by rfl, fun W hS => by have z : W.cell? ⟨p, 1, none⟩ = some (.map (some mb)) := (hS.1.cell 1).trans rfl; go_simp; try with_reducible rfl⟩) ?_)
    try simp only [Act.put, List.setIfInBounds_toArray, List.set_cons_zero, List.set_cons_succ]
  iterate 1
    first
      | (refine plan_pass _ rfl (by rfl) ?_)
      | (refine plan_take _ _ rfl (.inl ⟨by rfl, fun W hS => by clear hS; go_simp; try with_reducible rfl⟩) ?_)
    try simp only [Act.put, List.setIfInBounds_toArray, List.set_cons_zero, List.set_cons_succ]
  refine plan_take _ _ rfl (yields_load_has (by rfl) 66 _ rfl w3.heap.size rfl 66 (secC (overB s 0 xs)) _ Tryz.underlying66 rfl z5.out (fun W hW => hW.2)) ?_
  try simp only [Act.put, List.setIfInBounds_toArray, List.set_cons_zero, List.set_cons_succ]
  have hP : PendAt w6 mb d.pend := by rw [← hpend]; exact h6.pend
  refine plan_addP _ rfl (by rfl) _ _ _ rfl rfl i rfl (overB s 0 xs) rfl hP hf ?_
  intro ob hP7
  refine ⟨⟨hX.put_other hpm ob, hS6.put_other hnm ob⟩, ?_⟩
  try simp only [Act.put, List.setIfInBounds_toArray, List.set_cons_zero, List.set_cons_succ]
  refine plan_done ?_
  have h7 : DiskAt (putBlock w6 mb ob) p kb mb n ⟨d.dat, d.pend ++ [(i, overB s 0 xs)], D2.left, false⟩ := by
    have hdd := h6.dat
    rw [hdat] at hdd
    refine ⟨⟨st, ?_⟩, hdd.put_other h6.km ob, hlen, hP7, hn0, hn1, h6.left, ?_, ?_⟩
    · have := hX.put_other hpm ob
      rw [ho] at this
      exact this
    · intro x hx
      rcases List.mem_append.1 hx with hx | hx
      · exact hse x hx
      · rw [List.mem_singleton] at hx
        subst hx
        exact ⟨hi, hol⟩
    · rw [List.map_append, List.nodup_append]
      refine ⟨hap, by simp, ?_⟩
      intro a ha b hb z
      rw [List.map_cons, List.map_nil, List.mem_singleton] at hb
      subst z hb
      exact find_none_ne hf ha
  have ho7 : Hid (OffF (DF p kb mb) w (putBlock w6 mb ob)) := ho6.out.trans (offPut w6 ob (.inr (.inr rfl)))
  clear h6 hS6 ho6 hX hP hP7 ho5 h5 hS5
  go_wp2
  go_ret
  rw [hs]
  exact ⟨rfl, h7, ho7.out⟩
end
end Go.Proofs.YtpnpjblohijajabGreat
