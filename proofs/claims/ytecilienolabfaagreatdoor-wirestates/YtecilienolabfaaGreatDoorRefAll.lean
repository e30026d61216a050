/- RefPutLow, RefPutHigh, RefPutSt, RdMath, RdOk, RefRead, RefReadOp, EntApp, RefReadLog, RefReadSt, RefGetSt, joined. -/
import Derived.Test.YtecilienolabfaaGreatDoorBytesOwn
import Derived.Test.YtecilienolabfaaGreatDoorRef2
import Derived.Maps.AppendAt
import Derived.Test.YtecilienolabfaaGreatDoorMsgFacts
import Derived.Test.YtecilienolabfaaGreatDoorWireMem
import Derived.Test.YtecilienolabfaaGreatDoorRefState
import Derived.Test.YtecilienolabfaaGreatDoorIsFacts
import Derived.Test.YtecilienolabfaaGreatDoorRef3
import Derived.Test.YtecilienolabfaaGreatDoorCoder
import Derived.Test.YtecilienolabfaaGreatDoorPackCode
import Derived.Test.YtecilienolabfaaGreatDoorPackObj
import Derived.Test.YtecilienolabfaaGreatDoorEntRow
import Derived.Test.YtecilienolabfaaGreatDoorPackRead
namespace Go.Proofs.YtecilienolabfaaGreatDoor
set_option linter.unusedSimpArgs false
set_option linter.unusedVariables false
set_option maxRecDepth 100000
open Go.RowKit

/-- Bytes of one's own, from a base on. -/
def OwnV (w : World) (base : Nat) (v : Value) (s : List UInt8) : Prop := w.ownsRow base 5 1 v s.length (Bs s) ∧ base ≤ w.heap.size ∧ s.length ≤ 100000
/-- Blocks below a base, and all that are no bytes, are as they were. -/
structure OffB (base : Nat) (w w' : World) : Prop where
  below : Below base w w'
  keep : ∀ (k : Nat) (t : TypeId) (c : Array Value), Has w k t c → t ≠ 5 → Has w' k t c
theorem OffB.refl (base : Nat) (w : World) : OffB base w w := ⟨Below.refl _ _, fun _ _ _ h _ => h⟩
theorem OffB.trans {base : Nat} {a b c : World} (h : OffB base a b) (k : OffB base b c) : OffB base a c := ⟨h.below.trans k.below, fun i t x hx ht => k.keep i t x (h.keep i t x hx ht) ht⟩
theorem OffB.of {base : Nat} {w w' : World} (h : Below w.heap.size w w') (hb : base ≤ w.heap.size) : OffB base w w' := ⟨h.mono hb, fun _ _ _ hx _ => hx.later h⟩
theorem OffB.grown {base : Nat} {w w' : World} {v : Value} {n : Nat} {xs : List Value} (hv : w.ownsRow base 5 1 v n xs) (hb : base ≤ w.heap.size) (hg : w.grownBy w' v.ownBlock) : OffB base w w' := by
  refine ⟨(Below.refl _ _).grown hg hb (fun k hk => (hv.lt k hk).1), fun k t c hx ht => ?_⟩
  have hk := hx.lt
  have hne : some k ≠ v.ownBlock := fun e => by
    rcases hv.2 with ⟨rfl, _⟩ | ⟨g, cap, cur, rfl, _, hgg, _⟩
    · cases e
    · have e' : k = g := by
        have : some k = some g := e
        injection this
      subst e'
      unfold Has at hx
      rw [hx] at hgg
      injection hgg with hgg
      injection hgg with _ h2 _
      exact ht h2
  have := hg.block k hk hne
  unfold Has at *
  rw [this]
  exact hx
/-- What a call that puts something behind them leaves. -/
def Puts (base : Nat) (w : World) (s t : List UInt8) (e : Ending) (w' : World) : Prop := ∃ v', e = .returned v' ∧ OwnV w' base v' (s ++ t) ∧ OffB base w w'
theorem run_appS (w : World) (ty : TypeId) (base : Nat) (v : Value) (n : Nat) (xs : List UInt8) (hv : w.ownsRow base 5 1 v n (Bs xs)) (ad : Addr) (k c : Nat) (ys : List UInt8) (h : By w (some ad) c ys) (hk : k = ys.length) (hl : n + k ≤ 1000000000) (hbase : base ≤ w.heap.size) :
    ∃ v' w', (Builtin.append_ #[51, 51] ty #[v, .slice (some ad) k c]).run Tryz.prog w = .ok v' w' ∧ w'.ownsRow base 5 1 v' (n + k) (Bs (xs ++ ys)) ∧ w.grownBy w' v.ownBlock ∧ (v'.ownBlock = v.ownBlock ∨ v'.ownBlock = some w.heap.size) := by
  obtain ⟨i0, hi, hz0, hz1, hz2⟩ := info_parts Tryz.infoByte
  subst hk
  obtain ⟨v', w', hr, ho, hg, _, h5⟩ := run_append_own_at (P := Tryz.prog) w base 51 ty 5 i0 (.int .u8 0) 1 1 Tryz.underlying51 hi hz0 hz1 hz2 rfl (by decide) v n (Bs xs) hv ad ys.length c (Bs ys) (by rw [Bs_length, Nat.mul_one]) (h.at' ad rfl) (Bs_one _) (by unfold maxLen; omega) (by omega) hbase
  refine ⟨v', w', hr, ?_, hg, h5⟩
  rw [Bs_append]
  exact ho
theorem wpList_appS (w : World) {ops : Array Oper} {rest : List Oper} {o : Oper} {a : Act} {Q : Exit → Act → World → Prop} (hgd : o.guard = none) (s x : Operand)
    (ho : o.op = Op.call { callee := Callee.builtin Builtin.append, args := #[s, x], argTypes := #[51, 51] })
    (base : Nat) (v : Value) (n : Nat) (xs : List UInt8) (hs : a.eval s = v) (ad : Addr) (k c : Nat) (ys : List UInt8) (hx : a.eval x = .slice (some ad) k c) (hv : w.ownsRow base 5 1 v n (Bs xs)) (h : By w (some ad) c ys) (hk : k = ys.length) (hl : n + k ≤ 1000000000) (hbase : base ≤ w.heap.size)
    (hK : ∀ v' w', w'.ownsRow base 5 1 v' (n + k) (Bs (xs ++ ys)) → w.grownBy w' v.ownBlock → (v'.ownBlock = v.ownBlock ∨ v'.ownBlock = some w.heap.size) → wpList Tryz.prog ops Q rest (a.put o.dst v') w') :
    wpList Tryz.prog ops Q (o :: rest) a w := by
  refine wpList_plain hgd fun K hK' => ?_
  obtain ⟨v', w', hr, hown, hgr, h5⟩ := run_appS w o.type base v n xs hv ad k c ys h hk hl hbase
  unfold Oper.wp
  simp [execOp, ho, resolve, invoke, builtin, hs, hx, hr, Result.andThen]
  exact hK' _ _ (hK v' w' hown hgr h5)
theorem OwnV.slice {w : World} {base : Nat} {v : Value} {s : List UInt8} (h : OwnV w base v s) : ∃ ao c, v = .slice ao s.length c ∧ By w ao c s := by
  obtain ⟨_, ao, c, e, hB⟩ := own_by h.1
  exact ⟨ao, c, e, hB⟩
theorem OwnV.later {w w' : World} {base : Nat} {v : Value} {s : List UInt8} (h : OwnV w base v s) (hb : Below w.heap.size w w') : OwnV w' base v s :=
  ⟨own_at h.1 (fun k hk _ => hb.block k hk), Nat.le_trans h.2.1 hb.size, h.2.2⟩
theorem OwnV.drew {w : World} {base : Nat} {v : Value} {s : List UInt8} (h : OwnV w base v s) : OwnV w.drew base v s := h.later (Below.refl _ _).drew

theorem bit_any (x : Bool) (w : World) : Calls Tryz.prog 33 #[.bool x] w fun e w' => e = .returned (.int .u8 ((if x = true then 1 else 0 : Nat) : Int)) ∧ w' = w := by
  cases x with
  | true =>
    go_enter Tryz.func33, Tryz.ntmps33
    go_wp2
    go_ret
    exact ⟨rfl, rfl⟩
  | false =>
    go_enter Tryz.func33, Tryz.ntmps33
    go_wp2
    go_ret
    exact ⟨rfl, rfl⟩
set_option maxHeartbeats 1000000 in
theorem rone_any (base : Nat) (v : Value) (s : List UInt8) (n : Nat) (w : World) (h : OwnV w base v s) (hn : n < 256) (hl : s.length ≤ 90000) : Calls Tryz.prog 32 #[v, .int .u8 (n : Nat)] w (Puts base w s (putB n 1)) := by
  obtain ⟨ho, hbase, _⟩ := h
  have hBb := byteB w n hn
  have hq : Below w.heap.size w (w.alloc (.cells #[.int .u8 (n : Int)] 5)) := (Below.refl _ _).alloc (Nat.le_refl _) _
  have ho1 := ho.alloc (.cells #[.int .u8 (n : Int)] 5)
  have hl1 : base ≤ (w.alloc (.cells #[.int .u8 (n : Int)] 5)).heap.size := Nat.le_trans hbase hq.size
  have hP : putB n 1 = [UInt8.ofNat n] := by simp [putB]
  go_enter Tryz.func32, Tryz.ntmps32
  go_wp2_with (first
    | (refine wpList_appS _ rfl _ _ rfl base v s.length s rfl ⟨w.heap.size, 0, none⟩ 1 1 [UInt8.ofNat n] rfl ?ho ?hB rfl (by omega) ?hl ?_; (case ho => exact ho1); (case hB => exact hBb); (case hl => exact hl1))
    | fail)
  intro v' w' ho' hg' h5
  have hst := (OffB.of hq hbase).trans (OffB.grown ho1 hl1 hg')
  have hfin : OwnV w' base v' (s ++ putB n 1) := ⟨by rw [hP, List.length_append]; exact ho', Nat.le_trans hbase hst.below.size, by rw [List.length_append, putB_length]; omega⟩
  replace hfin : Hid _ := hfin
  replace hst : Hid _ := hst
  clear ho ho1 hBb ho' hP hg' h5
  go_wp2
  go_ret
  exact ⟨_, rfl, hfin.out, hst.out⟩
set_option maxHeartbeats 1600000 in
theorem rputI (base : Nat) (v : Value) (n : Nat) (xs : List Value) (x : Int) (k : Nat) (w : World) (hx0 : 0 ≤ x) (hx1 : x < 18446744073709551616) (h1 : 0 < k) (hk : k ≤ 8)
    (hown : w.ownsRow base 5 1 v n xs) (hl : n ≤ 1099511627776) (hbase : base ≤ w.heap.size) :
    Calls Tryz.prog 38 #[v, .int .u64 x, .int .i64 k] w fun e w' =>
      ∃ v', e = .returned v' ∧ w'.ownsRow base 5 1 v' (n + k) (xs ++ Bs (putB x.toNat k)) ∧ OffB base w w' := by
  obtain ⟨i0, hi, hz0, hz1, hz2⟩ := info_parts Tryz.infoByte
  go_enter Tryz.func38, Tryz.ntmps38
  go_wp2
  go_loopw [0, 8] (fun u i wr => ∃ m : Nat, m ≤ k ∧ i = .int .i64 (k - 1 - m) ∧ wr.ownsRow base 5 1 u (n + m) (xs ++ (Bs (putB x.toNat k)).take m) ∧ OffB base w wr)
    (fun _ i _ => (intOf i + 1).toNat)
  case atStart => exact ⟨0, Nat.zero_le _, by go_num, by simpa using hown, OffB.refl _ _⟩
  case round =>
    clear hown
    obtain ⟨m, hm, rfl, hownr, hb⟩ := hrel
    have hbs := hb.below.size
    by_cases hlt : m < k
    · go_wp2_with (at_builtin; refine wpList_append_own _ rfl _ _ 51 rfl base 5 i0 (.int .u8 0) 1 1 Tryz.underlying51 hi hz0 hz1 hz2 rfl (by decide) _ (n + m) _ rfl (hownr.alloc _) ⟨wr.heap.size, 0, none⟩ 1 1 [.int .u8 (x / 2 ^ (8 * (k - 1 - m)) % 256)] rfl rfl ?c1 ?c2 ?c3 ?c4 ?c5 ?_)
      case c1 =>
        intro j u hj
        match j, hj with
        | 0, hj => simp at hj; subst hj; simp [Addr.add]
      case c2 => intro u hu; simp at hu; subst hu; rfl
      case c3 => unfold maxLen; omega
      case c4 => omega
      case c5 => simp; omega
      · intro v' w1 hown' hgrow _
        have hb' : OffB base w w1 := hb.trans ((OffB.of ((Below.refl _ _).alloc (Nat.le_refl _) _) (by omega)).trans (OffB.grown (hownr.alloc _) (by simp; omega) hgrow))
        have R := put_step_own (k := k) hx0 hlt (by simpa using hown')
        clear hown' hgrow hownr hb
        go_wp2
        go_roundw
        case rel => exact ⟨m + 1, by omega, by go_num, R, hb'⟩
        case measure => simp [intOf]; omega
    · have hmk : m = k := by omega
      subst hmk
      go_wp2
      go_ret
      refine ⟨_, rfl, ?_, hb⟩
      rw [List.take_of_length_le (by simp [Bs, putB])] at hownr
      exact hownr
theorem rputS (base : Nat) (v : Value) (s : List UInt8) (x k : Nat) (w : World) (h : OwnV w base v s) (hx : x < 18446744073709551616) (h1 : 0 < k) (hk : k ≤ 8) (hl : s.length ≤ 90000) :
    Calls Tryz.prog 38 #[v, .int .u64 (x : Nat), .int .i64 (k : Nat)] w (Puts base w s (putB x k)) := by
  refine (rputI base v s.length (Bs s) x k w (by omega) (by omega) h1 hk h.1 (by omega) h.2.1).mono ?_
  rintro e w' ⟨v', rfl, ho, hb⟩
  rw [Int.toNat_natCast, ← Bs_append] at ho
  exact ⟨v', rfl, ⟨by rw [List.length_append, putB_length]; exact ho, Nat.le_trans h.2.1 hb.below.size, by rw [List.length_append, putB_length]; omega⟩, hb⟩
set_option maxHeartbeats 1000000 in
theorem rfour_any (base : Nat) (v : Value) (s : List UInt8) (n : Nat) (w : World) (h : OwnV w base v s) (hn : n < 4294967296) (hl : s.length ≤ 90000) : Calls Tryz.prog 29 #[v, .int .u32 (n : Nat)] w (Puts base w s (putB n 4)) := by
  have hput : Calls Tryz.prog 38 #[v, .int .u64 (n : Nat), .int .i64 4] w _ := rputS base v s n 4 w h (by omega) (by decide) (by decide) hl
  replace hput : Hid _ := hput
  clear h
  go_enter Tryz.func29, Tryz.ntmps29
  go_wp2_with fail
  refine Calls.mono hput.out ?_
  rintro e w1 ⟨v1, rfl, ho1, hb1⟩
  replace ho1 : Hid _ := ho1
  replace hb1 : Hid _ := hb1
  clear hput
  go_wp2
  go_ret
  exact ⟨_, rfl, ho1.out, hb1.out⟩
set_option maxHeartbeats 1600000 in
theorem rtext_any (base : Nat) (v : Value) (s t : List UInt8) (w : World) (h : OwnV w base v s) (ht : t.length ≤ 80) (hl : s.length ≤ 90000) : Calls Tryz.prog 37 #[v, .string (mkS t)] w (Puts base w s (textB t)) := by
  obtain ⟨i0, hi, hz0, hz1, hz2⟩ := info_parts Tryz.infoByte
  have hsz := mkS_size t
  have hsI : ((mkS t).size : Int) ≤ 65535 := by omega
  have hs8 : (mkS t).size ≤ 80 := by omega
  have hcs : Lib.strCells (mkS t) = Bs t := by rw [strCells_is]; unfold strB mkS; simp
  have hput : Calls Tryz.prog 38 #[v, .int .u64 ((mkS t).size : Nat), .int .i64 2] w _ := rputS base v s (mkS t).size 2 w h (by omega) (by decide) (by decide) hl
  replace hput : Hid _ := hput
  replace hcs : Hid _ := hcs
  replace hsz : Hid _ := hsz
  have hbase := h.2.1
  clear h
  go_enter Tryz.func37, Tryz.ntmps37
  go_wp2_with fail
  refine Calls.mono hput.out ?_
  rintro e w1 ⟨v1, rfl, ⟨hown1, hbase1, _⟩, hs1⟩
  clear hput
  rw [List.length_append, putB_length] at hown1
  replace hs1 : Hid _ := hs1
  go_wp2_with (at_builtin; refine Lib.wpList_append_own_string _ rfl _ _ 51 9 rfl base 5 i0 Tryz.underlying51 Tryz.underlying9 hi hz0 hz1 hz2 _ (s.length + 2) _ rfl hown1 (mkS t) rfl (by unfold maxLen; omega) (by omega) (by omega) ?_)
  intro v2 w2 hown2 hgrow hnil
  have hb2 : OffB base w w2 := hs1.out.trans (OffB.grown hown1 hbase1 hgrow)
  have hfin : OwnV w2 base v2 (s ++ textB t) := by
    refine ⟨?_, Nat.le_trans hbase hb2.below.size, by rw [List.length_append, textB_length]; omega⟩
    rw [hcs.out, ← Bs_append, List.append_assoc] at hown2
    have e2 : s.length + 2 + (mkS t).size = s.length + (t.length + 2) := by rw [hsz.out]; omega
    rw [e2, hsz.out] at hown2
    rw [List.length_append, textB_length]
    exact hown2
  replace hfin : Hid _ := hfin
  replace hb2 : Hid _ := hb2
  clear hown1 hown2 hgrow hnil hs1
  go_wp2
  go_ret
  exact ⟨_, rfl, hfin.out, hb2.out⟩


theorem op_byte : (39 : TypeId) ≠ 5 := by decide
theorem ent_byte : (41 : TypeId) ≠ 5 := by decide
theorem Has.opc (k : Nat) {w : World} {g : Nat} {o : OpV} (h : Has w g 39 (opC o)) {v : Value} (hv : (opL o)[k]? = some v) : w.cell? ⟨g, k, none⟩ = some v := by
  rw [h.cell k]
  unfold opC
  rw [List.getElem?_toArray]
  exact hv
set_option maxHeartbeats 4000000 in
theorem rop_any (base : Nat) (v : Value) (s : List UInt8) (o : OpV) (w : World) (h : OwnV w base v s) (ho : OpG o) (hl : s.length ≤ 80000) : Calls Tryz.prog 36 #[v, .agg (opC o)] w (Puts base w s (opB o)) := by
  obtain ⟨w1, hw1, hX, hb⟩ := one_var w 39 (opC o)
  have hbase := h.2.1
  have hv := h.later hb
  have oB : OffB base w w1 := OffB.of hb hbase
  have okk := ho.ok
  have hdl := ho.len
  have hd80 : o.data.length ≤ 80 := by omega
  clear h hb
  go_enter Tryz.func36, Tryz.ntmps36
  go_wp2_with fail
  clear hw1
  refine wp_region_plan (fun W => Has W w.heap.size 39 (opC o)) (Plan.of [(0, true), (1, true), (2, true), (4, true), (5, true), (3, false), (6, false), (7, true)] .done) (by kernel_rfl) (by kernel_rfl) (by kernel_rfl) (by kernel_rfl) hX.drew ?_
  replace hX := hX.drew
  replace hv := hv.drew
  replace oB : OffB base w w1.drew := oB.trans (OffB.of (Below.refl _ _).drew hv.2.1)
  generalize w1.drew = w2 at *
  iterate 2
    first
      | (refine plan_pass _ rfl (by rfl) ?_)
      | (refine plan_take _ _ rfl (.inl ⟨by rfl, fun W hS => by clear hS; go_simp; try with_reducible rfl⟩) ?_)
    try simp only [Act.put, List.setIfInBounds_toArray, List.set_cons_zero, List.set_cons_succ]
  iterate 1
    first
      | (refine plan_pass _ rfl (by rfl) ?_)
      | (refine plan_take _ _ rfl (.inl ⟨by rfl, fun W hS => by have z := Has.opc 0 hS rfl; go_simp; try with_reducible rfl⟩) ?_)
    try simp only [Act.put, List.setIfInBounds_toArray, List.set_cons_zero, List.set_cons_succ]
  iterate 1
    first
      | (refine plan_pass _ rfl (by rfl) ?_)
      | (refine plan_take _ _ rfl (.inl ⟨by rfl, fun W hS => by clear hS; go_simp; try with_reducible rfl⟩) ?_)
    try simp only [Act.put, List.setIfInBounds_toArray, List.set_cons_zero, List.set_cons_succ]
  iterate 1
    first
      | (refine plan_pass _ rfl (by rfl) ?_)
      | (refine plan_take _ _ rfl (.inl ⟨by rfl, fun W hS => by have z := Has.opc 1 hS rfl; go_simp; try with_reducible rfl⟩) ?_)
    try simp only [Act.put, List.setIfInBounds_toArray, List.set_cons_zero, List.set_cons_succ]
  refine plan_run _ rfl (fun K hK => ?_)
  go_simp
  refine (rone_any base v s o.client w2 hv okk.client (by omega)).mono ?_
  rintro en w3 ⟨v3, rfl, hv3, ow3⟩
  skip
  refine hK.out _ _ (ow3.keep _ _ _ hX op_byte) ?_
  clear hK K
  try simp only [Act.put, List.setIfInBounds_toArray, List.set_cons_zero, List.set_cons_succ]
  replace hX := ow3.keep _ _ _ hX op_byte
  replace oB := oB.trans ow3
  refine plan_run _ rfl (fun K hK => ?_)
  go_simp
  refine (rfour_any base v3 _ o.seq w3 hv3 okk.seq (by simp [putB_length]; omega)).mono ?_
  rintro en w4 ⟨v4, rfl, hv4, ow4⟩
  skip
  refine hK.out _ _ (ow4.keep _ _ _ hX op_byte) ?_
  clear hK K
  try simp only [Act.put, List.setIfInBounds_toArray, List.set_cons_zero, List.set_cons_succ]
  replace hX := ow4.keep _ _ _ hX op_byte
  replace oB := oB.trans ow4
  clear ow3 ow4 hv hv3
  iterate 1
    first
      | (refine plan_pass _ rfl (by rfl) ?_)
      | (refine plan_take _ _ rfl (.inl ⟨by rfl, fun W hS => by clear hS; go_simp; try with_reducible rfl⟩) ?_)
    try simp only [Act.put, List.setIfInBounds_toArray, List.set_cons_zero, List.set_cons_succ]
  refine plan_done ?_
  go_wp2_with fail
  refine wp_region_plan (fun W => Has W w.heap.size 39 (opC o)) (Plan.of [(0, true), (1, true), (2, true), (4, true), (5, true), (7, true), (8, true), (10, true), (11, true), (3, false), (6, false), (9, false), (12, false), (13, true)] .done) (by kernel_rfl) (by kernel_rfl) (by kernel_rfl) (by kernel_rfl) hX.drew ?_
  replace hX := hX.drew
  replace hv4 := hv4.drew
  replace oB : OffB base w w4.drew := oB.trans (OffB.of (Below.refl _ _).drew hv4.2.1)
  generalize w4.drew = w5 at *
  iterate 2
    first
      | (refine plan_pass _ rfl (by rfl) ?_)
      | (refine plan_take _ _ rfl (.inl ⟨by rfl, fun W hS => by clear hS; go_simp; try with_reducible rfl⟩) ?_)
    try simp only [Act.put, List.setIfInBounds_toArray, List.set_cons_zero, List.set_cons_succ]
  iterate 1
    first
      | (refine plan_pass _ rfl (by rfl) ?_)
      | (refine plan_take _ _ rfl (.inl ⟨by rfl, fun W hS => by have z := Has.opc 2 hS rfl; go_simp; try with_reducible rfl⟩) ?_)
    try simp only [Act.put, List.setIfInBounds_toArray, List.set_cons_zero, List.set_cons_succ]
  iterate 1
    first
      | (refine plan_pass _ rfl (by rfl) ?_)
      | (refine plan_take _ _ rfl (.inl ⟨by rfl, fun W hS => by clear hS; go_simp; try with_reducible rfl⟩) ?_)
    try simp only [Act.put, List.setIfInBounds_toArray, List.set_cons_zero, List.set_cons_succ]
  iterate 1
    first
      | (refine plan_pass _ rfl (by rfl) ?_)
      | (refine plan_take _ _ rfl (.inl ⟨by rfl, fun W hS => by have z := Has.opc 3 hS rfl; go_simp; try with_reducible rfl⟩) ?_)
    try simp only [Act.put, List.setIfInBounds_toArray, List.set_cons_zero, List.set_cons_succ]
  iterate 1
    first
      | (refine plan_pass _ rfl (by rfl) ?_)
      | (refine plan_take _ _ rfl (.inl ⟨by rfl, fun W hS => by clear hS; go_simp; try with_reducible rfl⟩) ?_)
    try simp only [Act.put, List.setIfInBounds_toArray, List.set_cons_zero, List.set_cons_succ]
  iterate 1
    first
      | (refine plan_pass _ rfl (by rfl) ?_)
      | (refine plan_take _ _ rfl (.inl ⟨by rfl, fun W hS => by have z := Has.opc 4 hS rfl; go_simp; try with_reducible rfl⟩) ?_)
    try simp only [Act.put, List.setIfInBounds_toArray, List.set_cons_zero, List.set_cons_succ]
  iterate 1
    first
      | (refine plan_pass _ rfl (by rfl) ?_)
      | (refine plan_take _ _ rfl (.inl ⟨by rfl, fun W hS => by clear hS; go_simp; try with_reducible rfl⟩) ?_)
    try simp only [Act.put, List.setIfInBounds_toArray, List.set_cons_zero, List.set_cons_succ]
  iterate 1
    first
      | (refine plan_pass _ rfl (by rfl) ?_)
      | (refine plan_take _ _ rfl (.inl ⟨by rfl, fun W hS => by have z : W.cell? ⟨w.heap.size, 5, none⟩ = some (.string (mkS o.data)) := Has.opc 5 hS rfl; go_simp; try with_reducible rfl⟩) ?_)
    try simp only [Act.put, List.setIfInBounds_toArray, List.set_cons_zero, List.set_cons_succ]
  refine plan_run _ rfl (fun K hK => ?_)
  go_simp
  refine (rone_any base v4 _ o.kind w5 hv4 okk.kind (by simp [putB_length]; omega)).mono ?_
  rintro en w6 ⟨v6, rfl, hv6, ow6⟩
  skip
  refine hK.out _ _ (ow6.keep _ _ _ hX op_byte) ?_
  clear hK K
  try simp only [Act.put, List.setIfInBounds_toArray, List.set_cons_zero, List.set_cons_succ]
  replace hX := ow6.keep _ _ _ hX op_byte
  replace oB := oB.trans ow6
  refine plan_run _ rfl (fun K hK => ?_)
  go_simp
  refine (rone_any base v6 _ o.obj w6 hv6 okk.obj (by simp [putB_length]; omega)).mono ?_
  rintro en w7 ⟨v7, rfl, hv7, ow7⟩
  skip
  refine hK.out _ _ (ow7.keep _ _ _ hX op_byte) ?_
  clear hK K
  try simp only [Act.put, List.setIfInBounds_toArray, List.set_cons_zero, List.set_cons_succ]
  replace hX := ow7.keep _ _ _ hX op_byte
  replace oB := oB.trans ow7
  refine plan_run _ rfl (fun K hK => ?_)
  go_simp
  refine (rone_any base v7 _ o.pos w7 hv7 okk.pos (by simp [putB_length]; omega)).mono ?_
  rintro en w8 ⟨v8, rfl, hv8, ow8⟩
  skip
  refine hK.out _ _ (ow8.keep _ _ _ hX op_byte) ?_
  clear hK K
  try simp only [Act.put, List.setIfInBounds_toArray, List.set_cons_zero, List.set_cons_succ]
  replace hX := ow8.keep _ _ _ hX op_byte
  replace oB := oB.trans ow8
  refine plan_run _ rfl (fun K hK => ?_)
  go_simp
  refine (rtext_any base v8 _ o.data w8 hv8 hd80 (by simp [putB_length]; omega)).mono ?_
  rintro en w9 ⟨v9, rfl, hv9, ow9⟩
  skip
  refine hK.out _ _ (ow9.keep _ _ _ hX op_byte) ?_
  clear hK K
  try simp only [Act.put, List.setIfInBounds_toArray, List.set_cons_zero, List.set_cons_succ]
  replace oB := oB.trans ow9
  clear ow6 ow7 ow8 ow9 hv4 hv6 hv7 hv8
  iterate 1
    first
      | (refine plan_pass _ rfl (by rfl) ?_)
      | (refine plan_take _ _ rfl (.inl ⟨by rfl, fun W hS => by clear hS; go_simp; try with_reducible rfl⟩) ?_)
    try simp only [Act.put, List.setIfInBounds_toArray, List.set_cons_zero, List.set_cons_succ]
  refine plan_done ?_
  replace oB : Hid _ := oB
  have hfin : Hid (OwnV w9 base v9 (s ++ opB o)) := by
    have e : s ++ opB o = s ++ putB o.client 1 ++ putB o.seq 4 ++ putB o.kind 1 ++ putB o.obj 1 ++ putB o.pos 1 ++ textB o.data := by unfold opB; simp only [List.append_assoc]
    rw [e]
    exact hv9
  clear hv9
  go_wp2
  go_ret
  exact ⟨_, rfl, hfin.out, oB.out⟩
theorem Has.entc (k : Nat) {w : World} {g : Nat} {e : EntV} (h : Has w g 41 (entC e)) {v : Value} (hv : (entL e)[k]? = some v) : w.cell? ⟨g, k, none⟩ = some v := by
  rw [h.cell k]
  unfold entC
  rw [List.getElem?_toArray]
  exact hv
set_option maxHeartbeats 4000000 in
theorem rent_any (base : Nat) (v : Value) (s : List UInt8) (x : EntV) (w : World) (h : OwnV w base v s) (hx : EntG x) (hl : s.length ≤ 70000) : Calls Tryz.prog 35 #[v, .agg (entC x)] w (Puts base w s (entB x)) := by
  obtain ⟨w1, hw1, hX, hb⟩ := one_var w 41 (entC x)
  have hbase := h.2.1
  have hv := h.later hb
  have oB : OffB base w w1 := OffB.of hb hbase
  have k1 := hx.since
  have k2 := hx.n
  have k3 := hx.op
  clear h hb hx
  go_enter Tryz.func35, Tryz.ntmps35
  go_wp2_with fail
  clear hw1
  refine wp_region_plan (fun W => Has W w.heap.size 41 (entC x)) (Plan.of [(0, true), (1, true), (2, true), (4, true), (5, true), (7, true), (8, true), (3, false), (6, false), (9, false), (10, true)] .done) (by kernel_rfl) (by kernel_rfl) (by kernel_rfl) (by kernel_rfl) hX.drew ?_
  replace hX := hX.drew
  replace hv := hv.drew
  replace oB : OffB base w w1.drew := oB.trans (OffB.of (Below.refl _ _).drew hv.2.1)
  generalize w1.drew = w2 at *
  iterate 2
    first
      | (refine plan_pass _ rfl (by rfl) ?_)
      | (refine plan_take _ _ rfl (.inl ⟨by rfl, fun W hS => by clear hS; go_simp; try with_reducible rfl⟩) ?_)
    try simp only [Act.put, List.setIfInBounds_toArray, List.set_cons_zero, List.set_cons_succ]
  iterate 1
    first
      | (refine plan_pass _ rfl (by rfl) ?_)
      | (refine plan_take _ _ rfl (.inl ⟨by rfl, fun W hS => by have z := Has.entc 0 hS rfl; go_simp; try with_reducible rfl⟩) ?_)
    try simp only [Act.put, List.setIfInBounds_toArray, List.set_cons_zero, List.set_cons_succ]
  iterate 1
    first
      | (refine plan_pass _ rfl (by rfl) ?_)
      | (refine plan_take _ _ rfl (.inl ⟨by rfl, fun W hS => by clear hS; go_simp; try with_reducible rfl⟩) ?_)
    try simp only [Act.put, List.setIfInBounds_toArray, List.set_cons_zero, List.set_cons_succ]
  iterate 1
    first
      | (refine plan_pass _ rfl (by rfl) ?_)
      | (refine plan_take _ _ rfl (.inl ⟨by rfl, fun W hS => by have z := Has.entc 1 hS rfl; go_simp; try with_reducible rfl⟩) ?_)
    try simp only [Act.put, List.setIfInBounds_toArray, List.set_cons_zero, List.set_cons_succ]
  iterate 1
    first
      | (refine plan_pass _ rfl (by rfl) ?_)
      | (refine plan_take _ _ rfl (.inl ⟨by rfl, fun W hS => by clear hS; go_simp; try with_reducible rfl⟩) ?_)
    try simp only [Act.put, List.setIfInBounds_toArray, List.set_cons_zero, List.set_cons_succ]
  refine plan_take _ (.agg (opC x.op)) rfl (yields_load_part (by rfl) 39 _ rfl w.heap.size 2 rfl (opL x.op) _ Tryz.underlying39 rfl (op_size x.op) (fun W hS => hS.ent_op)) ?_
  try simp only [Act.put, List.setIfInBounds_toArray, List.set_cons_zero, List.set_cons_succ]
  refine plan_run _ rfl (fun K hK => ?_)
  go_simp
  refine (rfour_any base v s x.since w2 hv k1 (by omega)).mono ?_
  rintro en w3 ⟨v3, rfl, hv3, ow3⟩
  skip
  refine hK.out _ _ (ow3.keep _ _ _ hX ent_byte) ?_
  clear hK K
  try simp only [Act.put, List.setIfInBounds_toArray, List.set_cons_zero, List.set_cons_succ]
  replace hX := ow3.keep _ _ _ hX ent_byte
  replace oB := oB.trans ow3
  refine plan_run _ rfl (fun K hK => ?_)
  go_simp
  refine (rfour_any base v3 _ x.n w3 hv3 k2 (by simp [putB_length]; omega)).mono ?_
  rintro en w4 ⟨v4, rfl, hv4, ow4⟩
  skip
  refine hK.out _ _ (ow4.keep _ _ _ hX ent_byte) ?_
  clear hK K
  try simp only [Act.put, List.setIfInBounds_toArray, List.set_cons_zero, List.set_cons_succ]
  replace hX := ow4.keep _ _ _ hX ent_byte
  replace oB := oB.trans ow4
  refine plan_run _ rfl (fun K hK => ?_)
  go_simp
  refine (rop_any base v4 _ x.op w4 hv4 k3 (by simp [putB_length]; omega)).mono ?_
  rintro en w5 ⟨v5, rfl, hv5, ow5⟩
  skip
  refine hK.out _ _ (ow5.keep _ _ _ hX ent_byte) ?_
  clear hK K
  try simp only [Act.put, List.setIfInBounds_toArray, List.set_cons_zero, List.set_cons_succ]
  replace oB := oB.trans ow5
  clear ow3 ow4 ow5 hv hv3 hv4
  iterate 1
    first
      | (refine plan_pass _ rfl (by rfl) ?_)
      | (refine plan_take _ _ rfl (.inl ⟨by rfl, fun W hS => by clear hS; go_simp; try with_reducible rfl⟩) ?_)
    try simp only [Act.put, List.setIfInBounds_toArray, List.set_cons_zero, List.set_cons_succ]
  refine plan_done ?_
  replace oB : Hid _ := oB
  have hfin : Hid (OwnV w5 base v5 (s ++ entB x)) := by
    have e : s ++ entB x = s ++ putB x.since 4 ++ putB x.n 4 ++ opB x.op := by unfold entB; simp only [List.append_assoc]
    rw [e]
    exact hv5
  clear hv5
  go_wp2
  go_ret
  exact ⟨_, rfl, hfin.out, oB.out⟩
theorem entsB_app (a b : List EntV) : entsB (a ++ b) = entsB a ++ entsB b := by
  induction a with
  | nil => rfl
  | cons x a ih =>
    show entB x ++ entsB (a ++ b) = entB x ++ entsB a ++ entsB b
    rw [ih, List.append_assoc]
theorem entsB_take (l : List EntV) (n : Nat) (h : n < l.length) : entsB (l.take (n + 1)) = entsB (l.take n) ++ entB l[n] := by
  rw [List.take_succ_eq_append_getElem h, entsB_app]
  show _ ++ (entB l[n] ++ []) = _
  rw [List.append_nil]
set_option maxHeartbeats 4000000 in
theorem rlog_any (base : Nat) (v : Value) (s : List UInt8) (l : List EntV) (ao : Option Addr) (c : Nat) (w : World) (h : OwnV w base v s) (hs : ∀ W, OffB base w W → Sl W ao c 8 (entR l)) (hx : ∀ e ∈ l, EntG e) (h6 : l.length ≤ 6) (hl : s.length ≤ 60000) : Calls Tryz.prog 61 #[v, .slice ao l.length c] w (Puts base w s (logB l)) := by
  have hs0 := hs w (OffB.refl _ _)
  have hle := hs0.ent_le
  have hcap := hs0.cap
  have hlw : ((l.length : Nat) : Int) % 256 = (l.length : Int) := by omega
  have h6I : (l.length : Int) ≤ 6 := by omega
  have hone := rone_any base v s l.length w h (by omega) (by omega)
  replace hone : Hid _ := hone
  replace hs : Hid _ := hs
  clear h hs0
  go_enter Tryz.func61, Tryz.ntmps61
  go_wp2_with fail
  refine Calls.mono hone.out ?_
  rintro e w1 ⟨v1, rfl, hv1, o1⟩
  clear hone
  have hmid : Hid (∀ n, n ≤ 6 → (s ++ putB l.length 1 ++ entsB (l.take n)).length ≤ 70000) := fun n hn => by
    have hE := entsB_length (l.take n) (fun e he => hx e (List.mem_of_mem_take he))
    have : (l.take n).length ≤ 6 := by rw [List.length_take]; omega
    simp only [List.length_append, putB_length]
    omega
  go_wp2
  go_loopw [0, 5] (fun u i wr => ∃ n : Nat, n ≤ l.length ∧ i = .int .i64 n ∧ OwnV wr base u (s ++ putB l.length 1 ++ entsB (l.take n)) ∧ OffB base w wr) (fun _ i _ => l.length - (intOf i).toNat)
  case atStart => exact ⟨0, Nat.zero_le _, rfl, by simpa [entsB] using hv1, o1⟩
  case round =>
    clear hv1 o1
    obtain ⟨n, hn, rfl, hv, o1⟩ := hrel
    by_cases hlt : n < l.length
    · cases ao with
      | none => have := (hs.out w (OffB.refl _ _)).nil rfl; omega
      | some ad =>
        have hx1 := ent_at (hs.out wr o1) n hlt
        have hxe := hx l[n] (List.getElem_mem hlt)
        have hcall := rent_any base _ _ l[n] wr hv hxe (hmid.out n (by omega))
        have hnext : Hid _ := entsB_take l n hlt
        have hltI : (n : Int) < (l.length : Int) := by omega
        generalize l[n] = x at *
        replace hcall : Hid _ := hcall
        replace o1 : Hid _ := o1
        clear hv hxe
        go_wp2_with (first
          | (refine wpList_load_any (by rfl) 41 _ rfl _ rfl (entL x) _ ?hg Tryz.underlying41 rfl (ent_size x) ?_; (case hg => exact hx1))
          | fail)
        refine Calls.mono hcall.out ?_
        rintro e w2 ⟨v2, rfl, hv2, o2⟩
        clear hcall hx1
        have hfin : Hid (OwnV w2 base v2 (s ++ putB l.length 1 ++ entsB (l.take (n + 1)))) := by rw [hnext.out, ← List.append_assoc]; exact hv2
        have o3 : Hid (OffB base w w2) := o1.out.trans o2
        clear hv2 o2 o1
        go_wp2
        go_roundw
        case rel => exact ⟨n + 1, by omega, by go_num, hfin.out, o3.out⟩
        case measure => simp [intOf]; omega
    · have e5 : n = l.length := by omega
      subst e5
      rw [List.take_length] at hv
      rw [show s ++ putB l.length 1 ++ entsB l = s ++ logB l by unfold logB; rw [List.append_assoc]] at hv
      replace hv : Hid _ := hv
      replace o1 : Hid _ := o1
      go_wp2
      go_ret
      exact ⟨_, rfl, hv.out, o1.out⟩


theorem st_byte : (44 : TypeId) ≠ 5 := by decide
theorem obj_byte : (29 : TypeId) ≠ 5 := by decide
def atrV (x : ObjV) (k : Nat) : List UInt8 := if k = 0 then x.a0 else if k = 1 then x.a1 else x.a2
def atrsB (x : ObjV) : Nat → List UInt8
  | 0 => []
  | k + 1 => atrsB x k ++ textB (atrV x k)
theorem atrs_3 (x : ObjV) : atrsB x 3 = textB x.a0 ++ (textB x.a1 ++ textB x.a2) := by simp [atrsB, atrV]
def objN (b : BaseV) (n : Nat) : ObjV := if h : n < 6 then b.obj ⟨n, h⟩ else b.obj 0
def lastN (b : BaseV) (n : Nat) : LastV := if h : n < 3 then b.last ⟨n, h⟩ else b.last 0
def obsB (b : BaseV) : Nat → List UInt8
  | 0 => []
  | n + 1 => obsB b n ++ obB (objN b n)
def lstsB (b : BaseV) : Nat → List UInt8
  | 0 => []
  | n + 1 => lstsB b n ++ lstB (lastN b n)
theorem bsB_is (b : BaseV) : bsB b = obsB b 6 ++ lstsB b 3 := by
  have e0 : objN b 0 = b.obj 0 := rfl
  have e1 : objN b 1 = b.obj 1 := rfl
  have e2 : objN b 2 = b.obj 2 := rfl
  have e3 : objN b 3 = b.obj 3 := rfl
  have e4 : objN b 4 = b.obj 4 := rfl
  have e5 : objN b 5 = b.obj 5 := rfl
  have f0 : lastN b 0 = b.last 0 := rfl
  have f1 : lastN b 1 = b.last 1 := rfl
  have f2 : lastN b 2 = b.last 2 := rfl
  unfold bsB
  simp only [obsB, lstsB, e0, e1, e2, e3, e4, e5, f0, f1, f2, List.nil_append, List.append_assoc]
theorem objN_G {b : BaseV} (h : BsG b) (n : Nat) : ObG (objN b n) := by
  unfold objN
  split
  · exact h.obj _
  · exact h.obj _
theorem obs_len {b : BaseV} (h : BsG b) : ∀ n, (obsB b n).length ≤ 73 * n
  | 0 => Nat.le_refl _
  | n + 1 => by
    have h1 := obs_len h n
    have h2 := obB_length (objN_G h n)
    show (obsB b n ++ obB (objN b n)).length ≤ _
    rw [List.length_append]
    omega
theorem lsts_len (b : BaseV) : ∀ n, (lstsB b n).length = 5 * n
  | 0 => rfl
  | n + 1 => by
    have h1 := lsts_len b n
    show (lstsB b n ++ lstB (lastN b n)).length = _
    rw [List.length_append, lstB_length]
    omega
theorem atrs_len {x : ObjV} (h : ObG x) : ∀ n, (atrsB x n).length ≤ 18 * n
  | 0 => Nat.le_refl _
  | n + 1 => by
    have h1 := atrs_len h n
    have h2 : (atrV x n).length ≤ 16 := by
      unfold atrV
      split
      · exact h.a0
      · split
        · exact h.a1
        · exact h.a2
    show (atrsB x n ++ textB (atrV x n)).length ≤ _
    rw [List.length_append, textB_length]
    omega
section
variable {w : World} {g : Nat} {x : StV} {ao : Option Addr} {c : Nat}
theorem Has.stc (k : Nat) (h : Has w g 44 (stC x ao c)) {v : Value} (hv : (stL x ao c)[k]? = some v) : w.cell? ⟨g, k, none⟩ = some v := by
  rw [h.cell k]
  unfold stC
  rw [List.getElem?_toArray]
  exact hv
theorem Has.st_obj (h : Has w g 44 (stC x ao c)) (n : Nat) (hn : n < 6) : w.rangeAt g (1 + n * 5) (objL (objN x.base n)) := h.range _ _ fun j v hj => by
  unfold stC
  rw [List.getElem?_toArray]
  match n, hn, j, hj with
  | 0, _, 0, hj => exact hj
  | 0, _, 1, hj => exact hj
  | 0, _, 2, hj => exact hj
  | 0, _, 3, hj => exact hj
  | 0, _, 4, hj => exact hj
  | 1, _, 0, hj => exact hj
  | 1, _, 1, hj => exact hj
  | 1, _, 2, hj => exact hj
  | 1, _, 3, hj => exact hj
  | 1, _, 4, hj => exact hj
  | 2, _, 0, hj => exact hj
  | 2, _, 1, hj => exact hj
  | 2, _, 2, hj => exact hj
  | 2, _, 3, hj => exact hj
  | 2, _, 4, hj => exact hj
  | 3, _, 0, hj => exact hj
  | 3, _, 1, hj => exact hj
  | 3, _, 2, hj => exact hj
  | 3, _, 3, hj => exact hj
  | 3, _, 4, hj => exact hj
  | 4, _, 0, hj => exact hj
  | 4, _, 1, hj => exact hj
  | 4, _, 2, hj => exact hj
  | 4, _, 3, hj => exact hj
  | 4, _, 4, hj => exact hj
  | 5, _, 0, hj => exact hj
  | 5, _, 1, hj => exact hj
  | 5, _, 2, hj => exact hj
  | 5, _, 3, hj => exact hj
  | 5, _, 4, hj => exact hj
theorem Has.st_seq (h : Has w g 44 (stC x ao c)) (n : Nat) (hn : n < 3) : w.cell? ⟨g, 31 + n * 3, none⟩ = some (.int .u32 ((lastN x.base n).seq : Nat)) := by
  refine h.stc _ ?_
  match n, hn with
  | 0, _ => rfl
  | 1, _ => rfl
  | 2, _ => rfl
theorem Has.st_code (h : Has w g 44 (stC x ao c)) (n : Nat) (hn : n < 3) : w.cell? ⟨g, 31 + n * 3 + 1, none⟩ = some (.int .u8 ((lastN x.base n).r.code : Nat)) := by
  refine h.stc _ ?_
  match n, hn with
  | 0, _ => rfl
  | 1, _ => rfl
  | 2, _ => rfl
end
theorem Has.oc (k : Nat) {w : World} {g : Nat} {x : ObjV} (h : Has w g 29 (objC x)) {v : Value} (hv : (objL x)[k]? = some v) : w.cell? ⟨g, k, none⟩ = some v := by
  rw [h.cell k]
  unfold objC
  rw [List.getElem?_toArray]
  exact hv
theorem Has.oc_atr {w : World} {g : Nat} {x : ObjV} (h : Has w g 29 (objC x)) (k : Nat) (hk : k < 3) : w.cell? ⟨g, 2 + k, none⟩ = some (.string (mkS (atrV x k))) := by
  refine Has.oc _ h ?_
  match k, hk with
  | 0, _ => rfl
  | 1, _ => rfl
  | 2, _ => rfl
set_option maxHeartbeats 8000000 in
theorem rputst_any (base : Nat) (v : Value) (s : List UInt8) (x : StV) (ao : Option Addr) (c : Nat) (w : World) (h : OwnV w base v s) (hs : ∀ W, OffB base w W → Sl W ao c 8 (entR x.log)) (hx : StOk x) (hl : s.length ≤ 30000) : Calls Tryz.prog 20 #[v, .agg (stC x ao c)] w (Puts base w s (if isSt x = true then statB x else [])) := by
  obtain ⟨T, hT⟩ : ∃ T, T = (if isSt x = true then statB x else []) := ⟨_, rfl⟩
  rw [← hT]
  replace hT : Hid _ := hT
  obtain ⟨w1, hw1, hX, hb⟩ := one_var w 44 (stC x ao c)
  have hbase := h.2.1
  have hv := h.later hb
  have oB : OffB base w w1 := OffB.of hb hbase
  have hS1 := hs w1 oB
  replace hs : Hid _ := hs
  clear h hb
  go_enter Tryz.func20, Tryz.ntmps20
  go_wp2_with (first
    | (refine wpList_load_has (by rfl) 44 _ rfl w.heap.size rfl 44 (stC x ao c) _ Tryz.underlying44 rfl (st_size x ao c) ?hg ?_; (case hg => exact hX))
    | fail)
  clear hw1
  refine (refis_any7 x ao c w1 hx hS1).mono ?_
  rintro e w2 ⟨rfl, hq⟩
  replace hX := hX.later hq
  replace hv := hv.later hq
  replace oB : OffB base w w2 := oB.trans (OffB.of hq (Nat.le_trans hbase oB.below.size))
  clear hq hS1
  cases hi : isSt x with
  | false =>
    have hfin : Hid (OwnV w2 base v (s ++ T)) := by rw [hT.out, hi, if_neg (by decide), List.append_nil]; exact hv
    replace oB : Hid _ := oB
    clear hv
    go_wp2
    go_ret
    exact ⟨_, rfl, hfin.out, oB.out⟩
  | true =>
  have hG := isSt_G hi hx
  have k1 := hG.started
  have k2 := hG.since
  have k3 := hG.n
  have kB := hG.base
  have k6 := hG.len
  have kL := hG.log
  have hT' : Hid (T = statB x) := by show _ = _; rw [hT.out, hi, if_pos rfl]
  clear hx hi hG hT
  go_wp2_with fail
  refine wp_region_plan (fun W => Has W w.heap.size 44 (stC x ao c)) (Plan.of [(0, true), (1, true), (2, true), (4, true), (5, true), (6, true), (8, true), (9, true), (10, true), (3, false), (7, false), (11, false), (12, true)] .done) (by kernel_rfl) (by kernel_rfl) (by kernel_rfl) (by kernel_rfl) hX.drew ?_
  replace hX := hX.drew
  replace hv := hv.drew
  replace oB : OffB base w w2.drew := oB.trans (OffB.of (Below.refl _ _).drew hv.2.1)
  generalize w2.drew = w3 at *
  iterate 2
    first
      | (refine plan_pass _ rfl (by rfl) ?_)
      | (refine plan_take _ _ rfl (.inl ⟨by rfl, fun W hS => by clear hS; go_simp; try with_reducible rfl⟩) ?_)
    try simp only [Act.put, List.setIfInBounds_toArray, List.set_cons_zero, List.set_cons_succ]
  iterate 1
    first
      | (refine plan_pass _ rfl (by rfl) ?_)
      | (refine plan_take _ _ rfl (.inl ⟨by rfl, fun W hS => by have z := hS.st_started; go_simp; try with_reducible rfl⟩) ?_)
    try simp only [Act.put, List.setIfInBounds_toArray, List.set_cons_zero, List.set_cons_succ]
  iterate 2
    first
      | (refine plan_pass _ rfl (by rfl) ?_)
      | (refine plan_take _ _ rfl (.inl ⟨by rfl, fun W hS => by clear hS; go_simp; try with_reducible rfl⟩) ?_)
    try simp only [Act.put, List.setIfInBounds_toArray, List.set_cons_zero, List.set_cons_succ]
  iterate 1
    first
      | (refine plan_pass _ rfl (by rfl) ?_)
      | (refine plan_take _ _ rfl (.inl ⟨by rfl, fun W hS => by have z := hS.st_tail_since; go_simp; try with_reducible rfl⟩) ?_)
    try simp only [Act.put, List.setIfInBounds_toArray, List.set_cons_zero, List.set_cons_succ]
  iterate 2
    first
      | (refine plan_pass _ rfl (by rfl) ?_)
      | (refine plan_take _ _ rfl (.inl ⟨by rfl, fun W hS => by clear hS; go_simp; try with_reducible rfl⟩) ?_)
    try simp only [Act.put, List.setIfInBounds_toArray, List.set_cons_zero, List.set_cons_succ]
  iterate 1
    first
      | (refine plan_pass _ rfl (by rfl) ?_)
      | (refine plan_take _ _ rfl (.inl ⟨by rfl, fun W hS => by have z := hS.st_tail_n; go_simp; try with_reducible rfl⟩) ?_)
    try simp only [Act.put, List.setIfInBounds_toArray, List.set_cons_zero, List.set_cons_succ]
  refine plan_run _ rfl (fun K hK => ?_)
  go_simp
  refine (rfour_any base v s x.started w3 hv k1 (by omega)).mono ?_
  rintro en w4 ⟨v4, rfl, hv4, ow4⟩
  refine hK.out _ _ (ow4.keep _ _ _ hX st_byte) ?_
  clear hK K
  try simp only [Act.put, List.setIfInBounds_toArray, List.set_cons_zero, List.set_cons_succ]
  replace hX := ow4.keep _ _ _ hX st_byte
  replace oB := oB.trans ow4
  refine plan_run _ rfl (fun K hK => ?_)
  go_simp
  refine (rfour_any base v4 _ x.tail.since w4 hv4 k2 (by simp [putB_length]; omega)).mono ?_
  rintro en w5 ⟨v5, rfl, hv5, ow5⟩
  refine hK.out _ _ (ow5.keep _ _ _ hX st_byte) ?_
  clear hK K
  try simp only [Act.put, List.setIfInBounds_toArray, List.set_cons_zero, List.set_cons_succ]
  replace hX := ow5.keep _ _ _ hX st_byte
  replace oB := oB.trans ow5
  refine plan_run _ rfl (fun K hK => ?_)
  go_simp
  refine (rfour_any base v5 _ x.tail.n w5 hv5 k3 (by simp [putB_length]; omega)).mono ?_
  rintro en w6 ⟨v6, rfl, hv6, ow6⟩
  refine hK.out _ _ (ow6.keep _ _ _ hX st_byte) ?_
  clear hK K
  try simp only [Act.put, List.setIfInBounds_toArray, List.set_cons_zero, List.set_cons_succ]
  replace hX := ow6.keep _ _ _ hX st_byte
  replace oB := oB.trans ow6
  clear ow4 ow5 ow6 hv hv4 hv5
  iterate 1
    first
      | (refine plan_pass _ rfl (by rfl) ?_)
      | (refine plan_take _ _ rfl (.inl ⟨by rfl, fun W hS => by clear hS; go_simp; try with_reducible rfl⟩) ?_)
    try simp only [Act.put, List.setIfInBounds_toArray, List.set_cons_zero, List.set_cons_succ]
  refine plan_done ?_
  obtain ⟨S, hS⟩ : ∃ S, S = s ++ putB x.started 4 ++ putB x.tail.since 4 ++ putB x.tail.n 4 := ⟨_, rfl⟩
  have hSl : S.length ≤ 30012 := by rw [hS]; simp [putB_length]; omega
  rw [← hS] at hv6
  replace hS : Hid _ := hS
  have hobl : Hid (∀ n, n ≤ 6 → (S ++ obsB x.base n).length ≤ 31000) := fun n hn => by
    have := obs_len kB n
    rw [List.length_append]
    omega
  have kBo : Hid (∀ n, ObG (objN x.base n)) := fun n => objN_G kB n
  go_wp2
  go_loopw [0, 5] (fun u i wr => ∃ n : Nat, n ≤ 6 ∧ i = .int .i64 n ∧ OwnV wr base u (S ++ obsB x.base n) ∧ OffB base w wr ∧ Has wr w.heap.size 44 (stC x ao c)) (fun _ i _ => 6 - (intOf i).toNat)
  case atStart => exact ⟨0, by decide, rfl, by simpa [obsB] using hv6, oB, hX⟩
  case round =>
    clear hv6 oB hX
    obtain ⟨n, hn, rfl, hv, oB, hX⟩ := hrel
    by_cases hlt : n < 6
    · have hltI : (n : Int) < 6 := by omega
      have hrg := hX.st_obj n hlt
      have hoG := kBo.out n
      have hln := hobl.out n (by omega)
      have hnext : Hid (obsB x.base (n + 1) = obsB x.base n ++ obB (objN x.base n)) := rfl
      generalize objN x.base n = y at *
      obtain ⟨w7, hw7, hY, hq7⟩ := new_var wr 29 (objC obj0) (objC y)
      have hX7 := hX.later hq7
      have hv7 := hv.later hq7
      have oB7 : OffB base w w7 := oB.trans (OffB.of hq7 hv.2.1)
      replace oB7 : Hid _ := oB7
      clear hq7 hv oB hX
      go_wp2_with (first
        | (refine wpList_load_mid' (by rfl) 29 _ rfl w.heap.size (1 + n * 5) rfl (objL y) _ ?hg Tryz.underlying29 rfl (obj_size y) ?_; (case hg => exact hrg))
        | (refine wpList_alloc_has (by rfl) 29 rfl (objC obj0) obj_zero ?_)
        | (refine wpList_store_to (by rfl) 29 _ _ rfl wr.heap.size rfl (objC y) rfl 29 (objC obj0) (obj_size y) rfl (obj_one y) ?hg w7 ?hW ?_; (case hg => exact Has.new _ _ _); (case hW => exact hw7); clear hw7)
        | fail)
      try simp only [Act.put, List.setIfInBounds_toArray, List.set_cons_zero, List.set_cons_succ]
      refine wp_region_plan (fun W => Has W wr.heap.size 29 (objC y) ∧ Has W w.heap.size 44 (stC x ao c)) (Plan.of [(0, true), (1, true), (2, true), (5, true), (6, true), (3, false), (4, false), (7, false), (8, true)] .done) (by kernel_rfl) (by kernel_rfl) (by kernel_rfl) (by kernel_rfl) ⟨hY.drew, hX7.drew⟩ ?_
      replace hY := hY.drew
      replace hX7 := hX7.drew
      replace hv7 := hv7.drew
      replace oB7 : Hid (OffB base w w7.drew) := oB7.out.trans (OffB.of (Below.refl _ _).drew hv7.2.1)
      generalize w7.drew = w8 at *
      iterate 2
        first
          | (refine plan_pass _ rfl (by rfl) ?_)
          | (refine plan_take _ _ rfl (.inl ⟨by rfl, fun W hS => by clear hS; go_simp; try with_reducible rfl⟩) ?_)
        try simp only [Act.put, List.setIfInBounds_toArray, List.set_cons_zero, List.set_cons_succ]
      iterate 1
        first
          | (refine plan_pass _ rfl (by rfl) ?_)
          | (refine plan_take _ _ rfl (.inl ⟨by rfl, fun W hS => by have z := Has.oc 0 hS.1 rfl; go_simp; try with_reducible rfl⟩) ?_)
        try simp only [Act.put, List.setIfInBounds_toArray, List.set_cons_zero, List.set_cons_succ]
      iterate 1
        first
          | (refine plan_pass _ rfl (by rfl) ?_)
          | (refine plan_take _ _ rfl (.inl ⟨by rfl, fun W hS => by clear hS; go_simp; try with_reducible rfl⟩) ?_)
        try simp only [Act.put, List.setIfInBounds_toArray, List.set_cons_zero, List.set_cons_succ]
      iterate 1
        first
          | (refine plan_pass _ rfl (by rfl) ?_)
          | (refine plan_take _ _ rfl (.inl ⟨by rfl, fun W hS => by have z : W.cell? ⟨wr.heap.size, 1, none⟩ = some (.string (mkS y.data)) := Has.oc 1 hS.1 rfl; go_simp; try with_reducible rfl⟩) ?_)
        try simp only [Act.put, List.setIfInBounds_toArray, List.set_cons_zero, List.set_cons_succ]
      obtain ⟨fl, hfl⟩ : ∃ fl : Nat, fl = if y.there = true then 1 else 0 := ⟨_, rfl⟩
      have hfl2 : fl < 256 := by rw [hfl]; split <;> decide
      have hbit := bit_any y.there w8
      rw [← hfl] at hbit
      replace hfl : Hid _ := hfl
      refine plan_run _ rfl (fun K hK => ?_)
      go_simp
      refine hbit.mono ?_
      rintro en w9 ⟨rfl, rfl⟩
      refine hK.out _ _ ⟨hY, hX7⟩ ?_
      clear hK K hbit
      try simp only [Act.put, List.setIfInBounds_toArray, List.set_cons_zero, List.set_cons_succ]
      refine plan_run _ rfl (fun K hK => ?_)
      go_simp
      refine (rone_any base _ _ fl w9 hv7 hfl2 (by omega)).mono ?_
      rintro en w10 ⟨v10, rfl, hv10, o10⟩
      replace hX7 := o10.keep _ _ _ hX7 st_byte
      replace hY := o10.keep _ _ _ hY obj_byte
      refine hK.out _ _ ⟨hY, hX7⟩ ?_
      clear hK K
      try simp only [Act.put, List.setIfInBounds_toArray, List.set_cons_zero, List.set_cons_succ]
      have hd80 : y.data.length ≤ 80 := by have := hoG.data; omega
      refine plan_run _ rfl (fun K hK => ?_)
      go_simp
      refine (rtext_any base v10 _ y.data w10 hv10 hd80 (by rw [List.length_append, putB_length]; omega)).mono ?_
      rintro en w11 ⟨v11, rfl, hv11, o11⟩
      replace hX7 := o11.keep _ _ _ hX7 st_byte
      replace hY := o11.keep _ _ _ hY obj_byte
      refine hK.out _ _ ⟨hY, hX7⟩ ?_
      clear hK K
      try simp only [Act.put, List.setIfInBounds_toArray, List.set_cons_zero, List.set_cons_succ]
      iterate 1
        first
          | (refine plan_pass _ rfl (by rfl) ?_)
          | (refine plan_take _ _ rfl (.inl ⟨by rfl, fun W hS => by clear hS; go_simp; try with_reducible rfl⟩) ?_)
        try simp only [Act.put, List.setIfInBounds_toArray, List.set_cons_zero, List.set_cons_succ]
      refine plan_done ?_
      have oB9 : Hid (OffB base w w11) := (oB7.out.trans o10).trans o11
      obtain ⟨S2, hS2⟩ : ∃ S2, S2 = S ++ obsB x.base n ++ putB fl 1 ++ textB y.data := ⟨_, rfl⟩
      rw [← hS2] at hv11
      have hS2l : S2.length ≤ 31100 := by rw [hS2]; simp only [List.length_append, putB_length, textB_length]; rw [List.length_append] at hln; omega
      have hdone : Hid (S2 ++ atrsB y 3 = S ++ obsB x.base (n + 1)) := by
        show _ = _
        rw [hnext.out, hS2, atrs_3, hfl.out]
        unfold obB flagB
        simp only [List.append_assoc]
      replace hS2 : Hid _ := hS2
      have hal : Hid (∀ k, k ≤ 3 → (S2 ++ atrsB y k).length ≤ 32000) := fun k hk => by
        have := atrs_len hoG k
        rw [List.length_append]
        omega
      have ha80 : Hid (∀ k, (atrV y k).length ≤ 80) := fun k => by
        have h0 := hoG.a0
        have h1 := hoG.a1
        have h2 := hoG.a2
        unfold atrV
        split
        · omega
        · split <;> omega
      obtain ⟨g7, hg7⟩ : ∃ g, g = wr.heap.size := ⟨_, rfl⟩
      rw [← hg7] at hY ⊢
      clear oB7 o10 o11 hv7 hv10 hln hrg hg7
      obtain ⟨W2, hW2⟩ : ∃ W2, W2 = wr := ⟨_, rfl⟩
      go_wp2
      go_loopw [0, 7] (fun u i wq => ∃ k : Nat, k ≤ 3 ∧ i = .int .i64 k ∧ OwnV wq base u (S2 ++ atrsB y k) ∧ OffB base w wq ∧ Has wq w.heap.size 44 (stC x ao c) ∧ Has wq g7 29 (objC y)) (fun _ i _ => 3 - (intOf i).toNat)
      case atStart => exact ⟨0, by decide, rfl, by simpa [atrsB] using hv11, oB9.out, hX7, hY⟩
      case round =>
        clear hv11 oB9 hX7 hY
        obtain ⟨k, hk, rfl, hv, oB, hX, hY⟩ := hrel
        by_cases hkl : k < 3
        · have hkI : (k : Int) < 3 := by omega
          have hcell := hY.oc_atr k hkl
          have hcall := rtext_any base _ _ (atrV y k) wr hv (ha80.out k) (by have := hal.out k (by omega); omega)
          have hst : Hid (atrsB y (k + 1) = atrsB y k ++ textB (atrV y k)) := rfl
          generalize atrV y k = tx at *
          replace hcall : Hid _ := hcall
          replace oB : Hid _ := oB
          clear hv
          go_wp2_with fail
          refine Calls.mono hcall.out ?_
          rintro en w12 ⟨v12, rfl, hv12, o12⟩
          clear hcall hcell
          have hfin : Hid (OwnV w12 base v12 (S2 ++ atrsB y (k + 1))) := by rw [hst.out, ← List.append_assoc]; exact hv12
          have oC : Hid (OffB base w w12) := oB.out.trans o12
          have hX12 := o12.keep _ _ _ hX st_byte
          have hY12 := o12.keep _ _ _ hY obj_byte
          clear hv12 o12 oB hX hY
          go_wp2
          go_roundw
          case rel => exact ⟨k + 1, by omega, by go_num, hfin.out, oC.out, hX12, hY12⟩
          case measure => simp [intOf]; omega
        · have e3 : k = 3 := by omega
          subst e3
          rw [hdone.out] at hv
          replace hv : Hid _ := hv
          replace oB : Hid _ := oB
          clear hY
          go_wp2
          go_roundw
          case rel => exact ⟨n + 1, by omega, by go_num, hv.out, oB.out, hX⟩
          case measure => simp [intOf]; omega
    · have e6 : n = 6 := by omega
      rw [e6] at hv
      have hgeI : ¬ (n : Int) < 6 := by omega
      have hgeD : decide ((n : Int) < 6) = false := decide_eq_false hgeI
      clear e6 hn
      obtain ⟨n5, hn5⟩ : ∃ k, k = n := ⟨_, rfl⟩
      rw [← hn5] at hgeI hgeD ⊢
      clear hlt hn5
      obtain ⟨S6, hS6⟩ : ∃ S6, S6 = S ++ obsB x.base 6 := ⟨_, rfl⟩
      rw [← hS6] at hv
      have hS6l : S6.length ≤ 31000 := by rw [hS6]; exact hobl.out 6 (by decide)
      replace hS6 : Hid _ := hS6
      have hll : Hid (∀ n, n ≤ 3 → (S6 ++ lstsB x.base n).length ≤ 32000) := fun n hn => by
        have := lsts_len x.base n
        rw [List.length_append]
        omega
      have kq : Hid (∀ n, (lastN x.base n).seq < 4294967296 ∧ (lastN x.base n).r.code < 256) := fun n => by
        unfold lastN
        split
        · exact ⟨kB.seq _, kB.code _⟩
        · exact ⟨kB.seq _, kB.code _⟩
      replace oB : Hid _ := oB
      obtain ⟨W2, hW2⟩ : ∃ W2, W2 = wr := ⟨_, rfl⟩
      go_wp2
      go_loopw [0, 8] (fun u i wq => ∃ n : Nat, n ≤ 3 ∧ i = .int .i64 n ∧ OwnV wq base u (S6 ++ lstsB x.base n) ∧ OffB base w wq ∧ Has wq w.heap.size 44 (stC x ao c)) (fun _ i _ => 3 - (intOf i).toNat)
      case atStart => exact ⟨0, by decide, rfl, by simpa [lstsB] using hv, oB.out, hX⟩
      case round =>
        clear hv oB hX
        obtain ⟨n, hn, rfl, hv, oB, hX⟩ := hrel
        by_cases hlt : n < 3
        · have hltI : (n : Int) < 3 := by omega
          obtain ⟨q1, q2⟩ := kq.out n
          have hln := hll.out n (by omega)
          have hcs : Hid (∀ W, Has W w.heap.size 44 (stC x ao c) → W.cell? ⟨w.heap.size, 31 + n * 3, none⟩ = some (.int .u32 ((lastN x.base n).seq : Nat)) ∧ W.cell? ⟨w.heap.size, 31 + n * 3 + 1, none⟩ = some (.int .u8 ((lastN x.base n).r.code : Nat))) := fun W h => ⟨h.st_seq n hlt, h.st_code n hlt⟩
          have hst : Hid (lstsB x.base (n + 1) = lstsB x.base n ++ lstB (lastN x.base n)) := rfl
          generalize lastN x.base n = la at *
          go_wp2_with fail
          refine wp_region_plan (fun W => Has W w.heap.size 44 (stC x ao c)) (Plan.of [(0, true), (1, true), (2, true), (3, true), (4, true), (5, true), (6, true), (8, true), (9, true), (10, true), (11, true), (12, true), (13, true), (14, true), (7, false), (15, false), (16, true)] .done) (by kernel_rfl) (by kernel_rfl) (by kernel_rfl) (by kernel_rfl) hX.drew ?_
          replace hX := hX.drew
          replace hv := hv.drew
          replace oB : OffB base w wr.drew := oB.trans (OffB.of (Below.refl _ _).drew hv.2.1)
          generalize wr.drew = w13 at *
          iterate 6
            first
              | (refine plan_pass _ rfl (by rfl) ?_)
              | (refine plan_take _ _ rfl (.inl ⟨by rfl, fun W hS => by clear hS; go_simp; try with_reducible rfl⟩) ?_)
            try simp only [Act.put, List.setIfInBounds_toArray, List.set_cons_zero, List.set_cons_succ]
          iterate 1
            first
              | (refine plan_pass _ rfl (by rfl) ?_)
              | (refine plan_take _ _ rfl (.inl ⟨by rfl, fun W hS => by have z := (hcs.out W hS).1; go_simp; try with_reducible rfl⟩) ?_)
            try simp only [Act.put, List.setIfInBounds_toArray, List.set_cons_zero, List.set_cons_succ]
          iterate 6
            first
              | (refine plan_pass _ rfl (by rfl) ?_)
              | (refine plan_take _ _ rfl (.inl ⟨by rfl, fun W hS => by clear hS; go_simp; try with_reducible rfl⟩) ?_)
            try simp only [Act.put, List.setIfInBounds_toArray, List.set_cons_zero, List.set_cons_succ]
          iterate 1
            first
              | (refine plan_pass _ rfl (by rfl) ?_)
              | (refine plan_take _ _ rfl (.inl ⟨by rfl, fun W hS => by have z := (hcs.out W hS).2; go_simp; try with_reducible rfl⟩) ?_)
            try simp only [Act.put, List.setIfInBounds_toArray, List.set_cons_zero, List.set_cons_succ]
          refine plan_run _ rfl (fun K hK => ?_)
          go_simp
          refine (rfour_any base _ _ la.seq w13 hv q1 (by omega)).mono ?_
          rintro en w14 ⟨v14, rfl, hv14, o14⟩
          replace hX := o14.keep _ _ _ hX st_byte
          replace oB := oB.trans o14
          refine hK.out _ _ hX ?_
          clear hK K
          try simp only [Act.put, List.setIfInBounds_toArray, List.set_cons_zero, List.set_cons_succ]
          refine plan_run _ rfl (fun K hK => ?_)
          go_simp
          refine (rone_any base v14 _ la.r.code w14 hv14 q2 (by rw [List.length_append, putB_length]; omega)).mono ?_
          rintro en w15 ⟨v15, rfl, hv15, o15⟩
          replace hX := o15.keep _ _ _ hX st_byte
          replace oB := oB.trans o15
          refine hK.out _ _ hX ?_
          clear hK K
          try simp only [Act.put, List.setIfInBounds_toArray, List.set_cons_zero, List.set_cons_succ]
          iterate 1
            first
              | (refine plan_pass _ rfl (by rfl) ?_)
              | (refine plan_take _ _ rfl (.inl ⟨by rfl, fun W hS => by clear hS; go_simp; try with_reducible rfl⟩) ?_)
            try simp only [Act.put, List.setIfInBounds_toArray, List.set_cons_zero, List.set_cons_succ]
          refine plan_done ?_
          have hfin : Hid (OwnV w15 base v15 (S6 ++ lstsB x.base (n + 1))) := by
            have e : S6 ++ lstsB x.base (n + 1) = S6 ++ lstsB x.base n ++ putB la.seq 4 ++ putB la.r.code 1 := by rw [hst.out]; unfold lstB; simp only [List.append_assoc]
            rw [e]
            exact hv15
          replace oB : Hid _ := oB
          clear hv hv14 hv15 o14 o15
          go_wp2
          go_roundw
          case rel => exact ⟨n + 1, by omega, by go_num, hfin.out, oB.out, hX⟩
          case measure => simp [intOf]; omega
        · have e3 : n = 3 := by omega
          subst e3
          have hlog := hX.st_log
          have hcall := rlog_any base _ _ x.log ao c wr hv (fun W hW => hs.out W (oB.trans hW)) kL k6 (by have := hll.out 3 (by decide); omega)
          replace hcall : Hid _ := hcall
          replace oB : Hid _ := oB
          clear hv
          go_wp2_with fail
          refine Calls.mono hcall.out ?_
          rintro en w16 ⟨v16, rfl, hv16, o16⟩
          clear hcall
          have hfin : Hid (OwnV w16 base v16 (s ++ T)) := by
            have e : s ++ T = S6 ++ lstsB x.base 3 ++ logB x.log := by
              rw [hT'.out, hS6.out, hS.out]
              unfold statB tlB
              rw [bsB_is]
              simp only [List.append_assoc]
            rw [e]
            exact hv16
          have oD : Hid (OffB base w w16) := oB.out.trans o16
          clear hv16 o16
          go_wp2
          go_ret
          exact ⟨_, rfl, hfin.out, oD.out⟩


/-- What is left, and whether something was lacking. -/
structure RS where
  left : List UInt8
  bad : Bool
abbrev Rd (α : Type) := RS → α × RS
def Rd.ret {α : Type} (x : α) : Rd α := fun s => (x, s)
def Rd.bind {α β : Type} (m : Rd α) (f : α → Rd β) : Rd β := fun s => f (m s).1 (m s).2
theorem rd_assoc {α β γ : Type} (m : Rd α) (f : α → Rd β) (g : β → Rd γ) : (m.bind f).bind g = m.bind fun x => (f x).bind g := rfl
theorem rd_left {α β : Type} (x : α) (f : α → Rd β) : (Rd.ret x).bind f = f x := rfl
def numZ (k : Nat) : Rd Nat := fun s => if s.left.length < k then (0, ⟨s.left, true⟩) else (getN (s.left.take k), ⟨s.left.drop k, s.bad⟩)
def txtZ (most : Nat) : Rd (List UInt8) := fun s => if textErr s.left (most : Int) = 0 then ((s.left.drop 2).take (lenN s.left), ⟨s.left.drop (2 + lenN s.left), s.bad⟩) else ([], ⟨s.left, true⟩)
def oneZ : Rd Nat := (numZ 1).bind fun m => .ret (m % 256)
def fourZ : Rd Nat := (numZ 4).bind fun m => .ret (m % 4294967296)
def badZ (b : Bool) : Rd Unit := fun s => ((), ⟨s.left, s.bad || b⟩)
def opZ : Rd OpV := oneZ.bind fun c => fourZ.bind fun s => oneZ.bind fun k => oneZ.bind fun j => oneZ.bind fun p => (txtZ 16).bind fun d => .ret ⟨c, s, k, j, p, d⟩
def entZ : Rd EntV := fourZ.bind fun s => fourZ.bind fun n => opZ.bind fun o => .ret ⟨s, n, o⟩
/-- So many rounds, as long as nothing is lacking. -/
def logTo (n : Nat) : Nat → Nat → List EntV → Rd (List EntV)
  | 0, _, l => .ret l
  | f + 1, i, l => fun s => if i < n ∧ i ≤ 6 ∧ s.bad = false then (entZ.bind fun e => logTo n f (i + 1) (l ++ [e])) s else (l, s)
def logZ : Rd (List EntV) := oneZ.bind fun n => (logTo n 7 0 []).bind fun l => (badZ (decide (6 < n))).bind fun _ => .ret l
/-- An object's attributes, one by one. -/
def setA (x : ObjV) (k : Nat) (t : List UInt8) : ObjV := if k = 0 then { x with a0 := t } else if k = 1 then { x with a1 := t } else { x with a2 := t }
def atrsZ : Nat → ObjV → Rd ObjV
  | 0, x => .ret x
  | k + 1, x => (atrsZ k x).bind fun y => (txtZ 16).bind fun t => .ret (setA y k t)
def thereZ : Rd Bool := oneZ.bind fun n => (badZ (decide (1 < n))).bind fun _ => .ret (decide (n = 1))
def obZ : Rd ObjV := thereZ.bind fun t => (txtZ 16).bind fun d => atrsZ 3 ⟨t, d, [], [], []⟩
def setO (b : BaseV) (n : Nat) (y : ObjV) : BaseV := { b with obj := fun j => if j.val = n then y else b.obj j }
def setL (b : BaseV) (n : Nat) (l : LastV) : BaseV := { b with last := fun j => if j.val = n then l else b.last j }
def objsZ : Nat → BaseV → Rd BaseV
  | 0, b => .ret b
  | n + 1, b => (objsZ n b).bind fun b' => obZ.bind fun y => .ret (setO b' n y)
def lastZ : Rd LastV := fourZ.bind fun s => oneZ.bind fun c => .ret ⟨s, ⟨c, []⟩⟩
def lastsZ : Nat → BaseV → Rd BaseV
  | 0, b => .ret b
  | n + 1, b => (lastsZ n b).bind fun b' => lastZ.bind fun l => .ret (setL b' n l)
def stZ : Rd StV := fourZ.bind fun a => fourZ.bind fun s => fourZ.bind fun n => (objsZ 6 base0).bind fun b => (lastsZ 3 b).bind fun b' => logZ.bind fun l => .ret ⟨a, b', ⟨s, n, op0⟩, l⟩

/-- The document's reader and the program's tell the same, where nothing is lacking. -/
structure Like {α : Type} (R : Rd α) (M : Wk α) : Prop where
  bad : ∀ s, (R ⟨s, true⟩).2.bad = true
  is : ∀ s x r, R ⟨s, false⟩ = (x, ⟨r, false⟩) ↔ M s = .ok (x, r)
theorem like_ret {α : Type} (x : α) : Like (.ret x) (.ret x) where
  bad := fun s => rfl
  is := fun s y r => by
    rw [ret_ok]
    constructor
    · intro h
      injection h with h1 h2
      injection h2 with h2 _
      exact ⟨h1, h2⟩
    · rintro ⟨rfl, rfl⟩; rfl
theorem like_bind {α β : Type} {R : Rd α} {M : Wk α} {f : α → Rd β} {g : α → Wk β} (h : Like R M) (hf : ∀ x, Like (f x) (g x)) : Like (R.bind f) (M.bind g) where
  bad := fun s => by
    have := h.bad s
    show ((f (R ⟨s, true⟩).1) (R ⟨s, true⟩).2).2.bad = true
    cases hR : (R ⟨s, true⟩).2 with
    | mk l b =>
      rw [hR] at this
      have : b = true := this
      subst this
      exact (hf _).bad l
  is := fun s y r => by
    rw [bind_ok]
    constructor
    · intro e
      cases hR : R ⟨s, false⟩ with
      | mk x t =>
        obtain ⟨l, b⟩ := t
        have e : (f (R ⟨s, false⟩).1) (R ⟨s, false⟩).2 = (y, ⟨r, false⟩) := e
        rw [hR] at e
        cases b with
        | true =>
          have := (hf x).bad l
          rw [show (f x ⟨l, true⟩) = (y, ⟨r, false⟩) from e] at this
          cases this
        | false => exact ⟨x, l, (h.is s x l).1 hR, ((hf x).is l y r).1 e⟩
    · rintro ⟨x, l, h1, h2⟩
      show (f (R ⟨s, false⟩).1) (R ⟨s, false⟩).2 = _
      rw [(h.is s x l).2 h1]
      exact ((hf x).is l y r).2 h2
theorem like_num (z k : Nat) : Like (numZ k) (GetC.num z k) where
  bad := fun s => by
    unfold numZ
    split <;> rfl
  is := fun s x r => by
    rw [get_num]
    unfold numZ
    split
    · rename_i h
      constructor
      · intro e
        injection e with _ e
        injection e with _ e
        cases e
      · rintro ⟨h1, _⟩
        exact absurd h (by show ¬ s.length < k; omega)
    · rename_i h
      have h : ¬ s.length < k := h
      constructor
      · intro e
        injection e with e1 e2
        injection e2 with e2 _
        exact ⟨by omega, e1.symm, e2.symm⟩
      · rintro ⟨_, rfl, rfl⟩; rfl
theorem like_txt (z : List UInt8) (k : Nat) : Like (txtZ k) (GetC.txt z k) where
  bad := fun s => by
    unfold txtZ
    split <;> rfl
  is := fun s x r => by
    show _ ↔ (if textErr s (k : Int) = 0 then (.ok ((s.drop 2).take (lenN s), s.drop (2 + lenN s)) : Except Nat (List UInt8 × List UInt8)) else .error (textErr s (k : Int)).toNat) = .ok (x, r)
    unfold txtZ
    show (if textErr s (k : Int) = 0 then _ else _) = _ ↔ _
    split
    · constructor
      · intro e
        injection e with e1 e2
        injection e2 with e2 _
        rw [e1, e2]
      · intro e
        injection e with e
        injection e with e1 e2
        rw [e1, e2]
    · constructor
      · intro e
        injection e with _ e
        injection e with _ e
        cases e
      · intro e; cases e
theorem like_one (z : Nat) : Like oneZ (oneM GetC z) := like_bind (like_num _ _) fun _ => like_ret _
theorem like_four (z : Nat) : Like fourZ (fourM GetC z) := like_bind (like_num _ _) fun _ => like_ret _
theorem like_op (z : OpV) : Like opZ (opM GetC z) := like_bind (like_one _) fun _ => like_bind (like_four _) fun _ => like_bind (like_one _) fun _ => like_bind (like_one _) fun _ => like_bind (like_one _) fun _ => like_bind (like_txt _ _) fun _ => like_ret _
theorem like_ent (z : EntV) : Like entZ (entM GetC z) := like_bind (like_four _) fun _ => like_bind (like_four _) fun _ => like_bind (like_op _) fun _ => like_ret _
theorem like_okay {α : Type} (x : α) : Like ((badZ false).bind fun _ => .ret x) (.ret x) where
  bad := fun s => rfl
  is := fun s y r => by
    rw [ret_ok]
    constructor
    · intro h
      injection h with h1 h2
      injection h2 with h2 _
      exact ⟨h1, h2⟩
    · rintro ⟨rfl, rfl⟩; rfl
theorem like_bad {α : Type} (x : α) (n : Nat) : Like ((badZ true).bind fun _ => .ret x) (.err n) where
  bad := fun s => rfl
  is := fun s y r => by
    constructor
    · intro h
      injection h with _ h
      injection h with _ h
      cases h
    · intro h; cases h
theorem like_there (z : Bool) : Like thereZ (flagM GetC z) := like_bind (like_one _) fun m => by
  by_cases h0 : m = 0
  · subst h0; exact like_okay false
  · by_cases h1 : m = 1
    · subst h1; exact like_okay true
    · have e1 : decide (1 < m) = true := decide_eq_true (by omega)
      rw [if_neg h0, if_neg h1, e1]
      exact like_bad _ _
theorem like_ob (z : ObjV) : Like obZ (obM GetC z) := like_bind (like_there _) fun t => like_bind (like_txt _ _) fun d => by
  have e : atrsZ 3 ⟨t, d, [], [], []⟩ = (txtZ 16).bind fun a => (txtZ 16).bind fun b => (txtZ 16).bind fun c => .ret ⟨t, d, a, b, c⟩ := rfl
  rw [e]
  exact like_bind (like_txt _ _) fun _ => like_bind (like_txt _ _) fun _ => like_bind (like_txt _ _) fun _ => like_ret _
theorem like_last (z : LastV) : Like lastZ (lstM GetC z) := like_bind (like_four _) fun _ => like_bind (like_one _) fun _ => like_ret _
theorem sets_are (a b c d e f : ObjV) (k l m : LastV) : setL (setL (setL (setO (setO (setO (setO (setO (setO base0 0 a) 1 b) 2 c) 3 d) 4 e) 5 f) 0 k) 1 l) 2 m = ⟨objs6 a b c d e f, lasts3 k l m⟩ := by
  have h1 : (setL (setL (setL (setO (setO (setO (setO (setO (setO base0 0 a) 1 b) 2 c) 3 d) 4 e) 5 f) 0 k) 1 l) 2 m).obj = objs6 a b c d e f := by
    funext i
    match i with
    | 0 => rfl
    | 1 => rfl
    | 2 => rfl
    | 3 => rfl
    | 4 => rfl
    | 5 => rfl
  have h2 : (setL (setL (setL (setO (setO (setO (setO (setO (setO base0 0 a) 1 b) 2 c) 3 d) 4 e) 5 f) 0 k) 1 l) 2 m).last = lasts3 k l m := by
    funext i
    match i with
    | 0 => rfl
    | 1 => rfl
    | 2 => rfl
  cases hq : setL (setL (setL (setO (setO (setO (setO (setO (setO base0 0 a) 1 b) 2 c) 3 d) 4 e) 5 f) 0 k) 1 l) 2 m with
  | mk o s =>
    rw [hq] at h1 h2
    have h1 : o = objs6 a b c d e f := h1
    have h2 : s = lasts3 k l m := h2
    rw [h1, h2]
theorem like_bs (z : BaseV) : Like ((objsZ 6 base0).bind fun b => lastsZ 3 b) (bsM GetC z) := by
  have e : ((objsZ 6 base0).bind fun b => lastsZ 3 b) = obZ.bind fun a => obZ.bind fun b => obZ.bind fun c => obZ.bind fun d => obZ.bind fun e => obZ.bind fun f => lastZ.bind fun k => lastZ.bind fun l => lastZ.bind fun m =>
      .ret (setL (setL (setL (setO (setO (setO (setO (setO (setO base0 0 a) 1 b) 2 c) 3 d) 4 e) 5 f) 0 k) 1 l) 2 m) := by
    simp only [objsZ, lastsZ, rd_assoc, rd_left]
  rw [e]
  refine like_bind (like_ob _) fun a => like_bind (like_ob _) fun b => like_bind (like_ob _) fun c => like_bind (like_ob _) fun d => like_bind (like_ob _) fun e => like_bind (like_ob _) fun f => like_bind (like_last _) fun k => like_bind (like_last _) fun l => like_bind (like_last _) fun m => ?_
  rw [sets_are]
  exact like_ret _
theorem wk_assoc {α β γ : Type} (m : Wk α) (f : α → Wk β) (g : β → Wk γ) : (m.bind f).bind g = m.bind fun x => (f x).bind g := by
  funext s
  unfold Wk.bind
  cases m s with
  | error n => rfl
  | ok p => obtain ⟨x, t⟩ := p; rfl
theorem wk_left {α β : Type} (x : α) (f : α → Wk β) : (Wk.ret x).bind f = f x := rfl
theorem like_eq {α : Type} {R R' : Rd α} {M : Wk α} (h : Like R M) (hb : ∀ s, (R' ⟨s, true⟩).2.bad = true) (he : ∀ s, R' ⟨s, false⟩ = R ⟨s, false⟩) : Like R' M := ⟨hb, fun s x r => by rw [he]; exact h.is s x r⟩
theorem logTo_bad (n : Nat) : ∀ (f i : Nat) (l : List EntV) (s : List UInt8), (logTo n f i l ⟨s, true⟩).2.bad = true
  | 0, _, _, _ => rfl
  | f + 1, i, l, s => by
    show (if i < n ∧ i ≤ 6 ∧ true = false then _ else (l, ({ left := s, bad := true } : RS))).2.bad = true
    rw [if_neg (fun h => by cases h.2.2)]
theorem like_to (n : Nat) (hn : n ≤ 6) : ∀ (j f i : Nat) (l : List EntV), i + j = n → j ≤ f → Like (logTo n f i l) ((entsM GetC (List.replicate j ent0)).bind fun t => .ret (l ++ t))
  | 0, f, i, l, hi, hf => by
    have e : (entsM GetC (List.replicate 0 ent0)).bind (fun t => Wk.ret (l ++ t)) = .ret l := by
      show (Wk.ret []).bind (fun t => Wk.ret (l ++ t)) = _
      rw [wk_left, List.append_nil]
    rw [e]
    refine like_eq (like_ret l) (logTo_bad n f i l) (fun s => ?_)
    cases f with
    | zero => rfl
    | succ f =>
      show (if i < n ∧ i ≤ 6 ∧ false = false then _ else (l, ({ left := s, bad := false } : RS))) = _
      rw [if_neg (by omega)]
      rfl
  | j + 1, f, i, l, hi, hf => by
    cases f with
    | zero => omega
    | succ f =>
      have e : (entsM GetC (List.replicate (j + 1) ent0)).bind (fun t => Wk.ret (l ++ t)) = (entM GetC ent0).bind fun x => (entsM GetC (List.replicate j ent0)).bind fun t => .ret ((l ++ [x]) ++ t) := by
        show ((entM GetC ent0).bind fun x => (entsM GetC (List.replicate j ent0)).bind fun y => .ret (x :: y)).bind (fun t => Wk.ret (l ++ t)) = _
        rw [wk_assoc]
        congr 1
        funext x
        rw [wk_assoc]
        congr 1
        funext y
        rw [wk_left, List.append_assoc]
        rfl
      rw [e]
      refine like_eq (like_bind (like_ent ent0) fun x => like_to n hn j f (i + 1) (l ++ [x]) (by omega) (by omega)) (logTo_bad n (f + 1) i l) (fun s => ?_)
      show (if i < n ∧ i ≤ 6 ∧ false = false then (entZ.bind fun e => logTo n f (i + 1) (l ++ [e])) ⟨s, false⟩ else _) = _
      rw [if_pos ⟨by omega, by omega, rfl⟩]
theorem like_log : Like logZ (logM GetC []) := by
  have e : logM GetC [] = (oneM GetC 0).bind fun n => if 6 < n then .err 13 else entsM GetC (List.replicate n ent0) := by
    show ((GetC.num ((([] : List EntV).length : Int) % 18446744073709551616).toNat 1).bind fun m => .ret (sgn m)).bind _ = ((GetC.num 0 1).bind fun m => .ret (m % 256)).bind _
    rw [wk_assoc, wk_assoc]
    funext s
    show Wk.bind (GetC.num 0 1) _ s = _
    unfold Wk.bind
    cases hr : GetC.num 0 1 s with
    | error n => rfl
    | ok p =>
      obtain ⟨x, t⟩ := p
      have hx := (num_was (by decide) hr).1
      have hx : x < 256 := by simpa using hx
      have e1 : sgn x = (x : Int) := sgn_small (by omega)
      have e2 : x % 256 = x := Nat.mod_eq_of_lt hx
      show (if 6 < sgn x then Wk.err 13 else entsM GetC (padE (sgn x).toNat [])) t = (if 6 < x % 256 then Wk.err 13 else entsM GetC (List.replicate (x % 256) ent0)) t
      rw [e1, e2, Int.toNat_natCast]
      have e3 : padE x [] = List.replicate x ent0 := by unfold padE; simp
      rw [e3]
      by_cases h6 : 6 < x
      · rw [if_pos h6, if_pos (by omega)]
      · rw [if_neg h6, if_neg (by omega)]
  rw [e]
  refine like_bind (like_one 0) fun n => ?_
  by_cases h6 : 6 < n
  · rw [if_pos h6, decide_eq_true h6]
    refine ⟨fun s => ?_, fun s x r => ?_⟩
    · show (_ || true) = true
      rw [Bool.or_true]
    · constructor
      · intro h
        injection h with _ h
        injection h with _ h
        rw [Bool.or_true] at h
        cases h
      · intro h; cases h
  · rw [if_neg h6, decide_eq_false h6]
    have h := like_to n (by omega) n 7 0 [] (by omega) (by omega)
    have e2 : (entsM GetC (List.replicate n ent0)).bind (fun t => Wk.ret ([] ++ t)) = (entsM GetC (List.replicate n ent0)).bind fun t => .ret t := rfl
    have e3 : (entsM GetC (List.replicate n ent0)).bind (fun t => Wk.ret t) = entsM GetC (List.replicate n ent0) := by
      funext s
      unfold Wk.bind
      cases entsM GetC (List.replicate n ent0) s with
      | error n => rfl
      | ok p => obtain ⟨x, t⟩ := p; rfl
    rw [e2] at h
    have h9 := like_bind h (fun l => like_okay l)
    rw [wk_assoc] at h9
    have e4 : ((entsM GetC (List.replicate n ent0)).bind fun x => (Wk.ret x).bind fun x => Wk.ret x) = entsM GetC (List.replicate n ent0) := by
      rw [show (fun x : List EntV => (Wk.ret x).bind fun x => Wk.ret x) = fun x => Wk.ret x from rfl, e3]
    rw [e4] at h9
    exact h9
theorem like_st : Like stZ (statM GetC st0) := by
  have e : stZ = fourZ.bind fun a => (fourZ.bind fun s => fourZ.bind fun n => .ret ⟨s, n, op0⟩).bind fun t => ((objsZ 6 base0).bind fun b => lastsZ 3 b).bind fun b => logZ.bind fun l => .ret ⟨a, b, t, l⟩ := by
    simp only [stZ, rd_assoc, rd_left]
  rw [e]
  exact like_bind (like_four _) fun a => like_bind (like_bind (like_four _) fun _ => like_bind (like_four _) fun _ => like_ret _) fun t => like_bind (like_bs _) fun b => like_bind like_log fun l => like_ret _


theorem one_ok (s : RS) : (oneZ s).1 < 256 := Nat.mod_lt _ (by decide)
theorem four_ok (s : RS) : (fourZ s).1 < 4294967296 := Nat.mod_lt _ (by decide)
theorem txt_ok (m : Nat) (s : RS) : (txtZ m s).1.length < 65536 := by
  unfold txtZ
  split
  · have := lenN_lt s.left
    show ((s.left.drop 2).take (lenN s.left)).length < _
    rw [List.length_take]
    omega
  · show 0 < _; decide
theorem opZ_ok (s : RS) : OpOk (opZ s).1 := by
  obtain ⟨a, s1, e1⟩ : ∃ n s', oneZ s = (n, s') := ⟨_, _, rfl⟩
  have h1 := one_ok s
  rw [e1] at h1
  obtain ⟨b, s2, e2⟩ : ∃ n s', fourZ s1 = (n, s') := ⟨_, _, rfl⟩
  have h2 := four_ok s1
  rw [e2] at h2
  obtain ⟨c, s3, e3⟩ : ∃ n s', oneZ s2 = (n, s') := ⟨_, _, rfl⟩
  have h3 := one_ok s2
  rw [e3] at h3
  obtain ⟨d, s4, e4⟩ : ∃ n s', oneZ s3 = (n, s') := ⟨_, _, rfl⟩
  have h4 := one_ok s3
  rw [e4] at h4
  obtain ⟨f, s5, e5⟩ : ∃ n s', oneZ s4 = (n, s') := ⟨_, _, rfl⟩
  have h5 := one_ok s4
  rw [e5] at h5
  obtain ⟨g, s6, e6⟩ : ∃ n s', txtZ 16 s5 = (n, s') := ⟨_, _, rfl⟩
  have h6 := txt_ok 16 s5
  rw [e6] at h6
  have hZ : opZ s = (⟨a, b, c, d, f, g⟩, s6) := by simp only [opZ, Rd.bind, Rd.ret, e1, e2, e3, e4, e5, e6]
  rw [hZ]
  exact ⟨h1, h2, h3, h4, h5, Nat.le_trans (Nat.le_of_lt h6) (by decide)⟩
theorem entZ_ok (s : RS) : EntOk (entZ s).1 := by
  obtain ⟨a, s1, e1⟩ : ∃ n s', fourZ s = (n, s') := ⟨_, _, rfl⟩
  have h1 := four_ok s
  rw [e1] at h1
  obtain ⟨b, s2, e2⟩ : ∃ n s', fourZ s1 = (n, s') := ⟨_, _, rfl⟩
  have h2 := four_ok s1
  rw [e2] at h2
  obtain ⟨c, s3, e3⟩ : ∃ n s', opZ s2 = (n, s') := ⟨_, _, rfl⟩
  have h3 := opZ_ok s2
  rw [e3] at h3
  have hZ : entZ s = (⟨a, b, c⟩, s3) := by simp only [entZ, Rd.bind, Rd.ret, e1, e2, e3]
  rw [hZ]
  exact ⟨h1, h2, h3⟩
theorem logTo_ok (n : Nat) : ∀ (f i : Nat) (l : List EntV) (s : RS), (∀ e ∈ l, EntOk e) → (∀ e ∈ (logTo n f i l s).1, EntOk e) ∧ (logTo n f i l s).1.length ≤ l.length + f
  | 0, _, l, s, h => ⟨h, Nat.le_refl _⟩
  | f + 1, i, l, s, h => by
    by_cases hc : i < n ∧ i ≤ 6 ∧ s.bad = false
    · have e : logTo n (f + 1) i l s = logTo n f (i + 1) (l ++ [(entZ s).1]) (entZ s).2 := if_pos hc
      rw [e]
      have hl : ∀ e ∈ l ++ [(entZ s).1], EntOk e := fun e he => by
        rcases List.mem_append.1 he with he | he
        · exact h e he
        · rw [List.mem_singleton] at he
          rw [he]
          exact entZ_ok s
      obtain ⟨h1, h2⟩ := logTo_ok n f (i + 1) (l ++ [(entZ s).1]) (entZ s).2 hl
      refine ⟨h1, Nat.le_trans h2 ?_⟩
      rw [List.length_append]
      show l.length + 1 + f ≤ _
      omega
    · have e : logTo n (f + 1) i l s = (l, s) := if_neg hc
      rw [e]
      exact ⟨h, by show l.length ≤ _; omega⟩
theorem logZ_ok (s : RS) : (∀ e ∈ (logZ s).1, EntOk e) ∧ (logZ s).1.length ≤ 7 := by
  obtain ⟨h1, h2⟩ := logTo_ok (oneZ s).1 7 0 [] (oneZ s).2 (fun e he => by cases he)
  exact ⟨h1, by rw [List.length_nil, Nat.zero_add] at h2; exact h2⟩
structure ObS (x : ObjV) : Prop where
  data : x.data.length < 65536
  a0 : x.a0.length < 65536
  a1 : x.a1.length < 65536
  a2 : x.a2.length < 65536
theorem obZ_ok (s : RS) : ObS (obZ s).1 := ⟨txt_ok _ _, txt_ok _ _, txt_ok _ _, txt_ok _ _⟩
theorem objsZ_ok : ∀ (n : Nat) (s : RS) (j : Fin 6), ObS ((objsZ n base0 s).1.obj j)
  | 0, _, _ => ⟨by show 0 < _; decide, by show 0 < _; decide, by show 0 < _; decide, by show 0 < _; decide⟩
  | n + 1, s, j => by
    show ObS (if j.val = n then _ else _)
    split
    · exact obZ_ok _
    · exact objsZ_ok n s j
structure LsS (x : LastV) : Prop where
  seq : x.seq < 4294967296
  code : x.r.code < 256
  data : x.r.data = []
theorem lastZ_ok (s : RS) : LsS (lastZ s).1 := ⟨four_ok _, one_ok _, rfl⟩
theorem lastsZ_ok (b : BaseV) (hb : ∀ j, LsS (b.last j)) : ∀ (n : Nat) (s : RS) (j : Fin 3), LsS ((lastsZ n b s).1.last j) ∧ (lastsZ n b s).1.obj = b.obj
  | 0, _, j => ⟨hb j, rfl⟩
  | n + 1, s, j => by
    refine ⟨?_, (lastsZ_ok b hb n s j).2⟩
    show LsS (if j.val = n then _ else _)
    split
    · exact lastZ_ok _
    · exact (lastsZ_ok b hb n s j).1
theorem objsZ_last : ∀ (n : Nat) (s : RS) (j : Fin 3), (objsZ n base0 s).1.last j = last0
  | 0, _, _ => rfl
  | n + 1, s, j => objsZ_last n s j
theorem stZ_ok (s : RS) : StOk (stZ s).1 := by
  obtain ⟨a, s1, e1⟩ : ∃ n s', fourZ s = (n, s') := ⟨_, _, rfl⟩
  have h1 := four_ok s
  rw [e1] at h1
  obtain ⟨b, s2, e2⟩ : ∃ n s', fourZ s1 = (n, s') := ⟨_, _, rfl⟩
  have h2 := four_ok s1
  rw [e2] at h2
  obtain ⟨c, s3, e3⟩ : ∃ n s', fourZ s2 = (n, s') := ⟨_, _, rfl⟩
  have h3 := four_ok s2
  rw [e3] at h3
  obtain ⟨d, s4, e4⟩ : ∃ n s', objsZ 6 base0 s3 = (n, s') := ⟨_, _, rfl⟩
  obtain ⟨f, s5, e5⟩ : ∃ n s', lastsZ 3 d s4 = (n, s') := ⟨_, _, rfl⟩
  obtain ⟨l, s6, e6⟩ : ∃ n s', logZ s5 = (n, s') := ⟨_, _, rfl⟩
  have hZ : stZ s = (⟨a, f, ⟨b, c, op0⟩, l⟩, s6) := by simp only [stZ, Rd.bind, Rd.ret, e1, e2, e3, e4, e5, e6]
  have hl0 : ∀ j, LsS (d.last j) := fun j => by
    have := objsZ_last 6 s3 j
    rw [e4] at this
    rw [show d.last j = last0 from this]
    exact ⟨by decide, by decide, rfl⟩
  have hL : ∀ j, LsS (f.last j) := fun j => by have := (lastsZ_ok d hl0 3 s4 j).1; rw [e5] at this; exact this
  have hO : f.obj = d.obj := by have := (lastsZ_ok d hl0 3 s4 0).2; rw [e5] at this; exact this
  have hob : ∀ j, ObS (d.obj j) := fun j => by have := objsZ_ok 6 s3 j; rw [e4] at this; exact this
  have hlg := logZ_ok s5
  rw [e6] at hlg
  rw [hZ]
  refine ⟨h1, ⟨fun i => (hL i).seq, fun i => (hL i).code, fun i => ?_, fun i => ?_, fun i => ?_, fun i => ?_, fun i => ?_⟩, ⟨h2, h3, ?_⟩, hlg.1, ?_⟩
  · show (f.last i).r.data.length ≤ _
    rw [(hL i).data]; exact Nat.zero_le _
  · show (f.obj i).data.length ≤ _
    rw [hO]; have := (hob i).data; omega
  · show (f.obj i).a0.length ≤ _
    rw [hO]; have := (hob i).a0; omega
  · show (f.obj i).a1.length ≤ _
    rw [hO]; have := (hob i).a1; omega
  · show (f.obj i).a2.length ≤ _
    rw [hO]; have := (hob i).a2; omega
  · show OpOk op0
    exact ⟨by decide, by decide, by decide, by decide, by decide, Nat.zero_le _⟩
  · have : l.length ≤ 7 := hlg.2
    show l.length ≤ 1000
    omega
/-- The two readers tell the same of whatever bytes. -/
theorem read_yes {b r : List UInt8} {x : StV} (h : stZ ⟨b, false⟩ = (x, ⟨r, false⟩)) (hi : isSt x = true) : readStM b = .ok (x, r) := by
  unfold readStM
  rw [(like_st.is b x r).1 h]
  show (if isSt x = true then _ else _) = _
  rw [if_pos hi]
theorem read_bad {b : List UInt8} (h : (stZ ⟨b, false⟩).2.bad = true) : ∃ k, readStM b = .error k := by
  unfold readStM
  cases hr : statM GetC st0 b with
  | error k => exact ⟨k, rfl⟩
  | ok p =>
    obtain ⟨x, r⟩ := p
    have := (like_st.is b x r).2 hr
    rw [this] at h
    cases h
theorem read_no {b : List UInt8} (h : isSt (stZ ⟨b, false⟩).1 = false) : ∃ k, readStM b = .error k := by
  unfold readStM
  cases hr : statM GetC st0 b with
  | error k => exact ⟨k, rfl⟩
  | ok p =>
    obtain ⟨x, r⟩ := p
    have := (like_st.is b x r).2 hr
    rw [this] at h
    refine ⟨10, ?_⟩
    show (if isSt x = true then _ else _) = _
    rw [if_neg (by rw [show isSt x = false from h]; decide)]


/-- The document's reader in memory. -/
def RdI (p : Nat) (w : World) (s : RS) : Prop := ∃ ao c, Has w p 113 #[.slice ao s.left.length c, .bool s.bad] ∧ By w ao c s.left ∧ (∀ ad, ao = some ad → ad.block + 1 < p) ∧ s.left.length ≤ 1000000000
abbrev OffP (p : Nat) := OffF (fun k => k = p)
theorem RdI.lt {p : Nat} {w : World} {s : RS} (h : RdI p w s) : p < w.heap.size := by
  obtain ⟨ao, c, h1, _⟩ := h
  exact h1.lt
theorem RdI.later {p : Nat} {w w' : World} {s : RS} (h : RdI p w s) (hb : Below w.heap.size w w') : RdI p w' s := by
  obtain ⟨ao, c, h1, h2, h3, h4⟩ := h
  exact ⟨ao, c, h1.later hb, h2.later hb, h3, h4⟩
theorem RdI.other {p q : Nat} {w w' : World} {s : RS} (h : RdI p w s) (hb : But q w w') (hq : p < q) : RdI p w' s := by
  obtain ⟨ao, c, h1, h2, h3, h4⟩ := h
  have hp := h1.lt
  refine ⟨ao, c, hb.has h1 (by omega), h2.at (fun ad had _ => hb.block _ (by have := h3 ad had; omega) (by have := h3 ad had; omega)), h3, h4⟩
theorem OffF.next {F : Nat → Prop} {w w' w'' : World} (h : OffF F w w') (k : Below w'.heap.size w' w'') : OffF F w w'' :=
  ⟨k.os.trans h.os, k.tape.trans h.tape, k.output.trans h.output, Nat.le_trans h.size k.size, fun i hi hn => (k.block i (Nat.lt_of_lt_of_le hi h.size)).trans (h.block i hi hn)⟩
theorem OffF.fresh {F : Nat → Prop} {w w' w'' : World} {q : Nat} (h : OffF F w w') (k : But q w' w'') (hq : w.heap.size ≤ q) : OffF F w w'' :=
  ⟨k.os.trans h.os, k.tape.trans h.tape, k.output.trans h.output, Nat.le_trans h.size k.size, fun i hi hn => (k.block i (Nat.lt_of_lt_of_le hi h.size) (by omega)).trans (h.block i hi hn)⟩
theorem OffF.add {F : Nat → Prop} {w w' w'' : World} (h : OffF F w w') (k : OffF F w' w'') : OffF F w w'' := h.trans k
/-- What a read leaves. -/
def Reads {α : Type} (p : Nat) (w : World) (r : α × RS) (V : α → Value) (e : Ending) (w' : World) : Prop := e = .returned (V r.1) ∧ RdI p w' r.2 ∧ OffP p w w'
theorem rd_set {p : Nat} {w w1 : World} {ao ao' : Option Addr} {c c' n : Nat} {b : Bool} {s : RS} (h : Has w p 113 #[.slice ao n c, .bool b]) (hq : Below w.heap.size w w1) (hB : By w1 ao' c' s.left) (h3 : ∀ ad, ao' = some ad → ad.block + 1 < p) (h4 : s.left.length ≤ 1000000000) (hb : s.bad = b) :
    RdI p (w1.setCell ⟨p, 0, none⟩ (.slice ao' s.left.length c')) s ∧ OffP p w (w1.setCell ⟨p, 0, none⟩ (.slice ao' s.left.length c')) := by
  have h1 := (h.later hq).set 0 (.slice ao' s.left.length c')
  refine ⟨⟨ao', c', by rw [hb]; exact h1, hB.kept (fun ad had _ => by have := h3 ad had; show ad.block ≠ p; omega) _, h3, h4⟩, ?_⟩
  exact (OffF.of hq).trans (OffF.but (but_cell _ _ _))
theorem num_lt (k : Nat) (s : RS) : (numZ k s).1 < 18446744073709551616 := by
  unfold numZ
  split
  · show 0 < _; decide
  · exact getN_lt _
set_option maxHeartbeats 2000000 in
theorem rnum_any (p k : Nat) (w : World) (s : RS) (h : RdI p w s) (h1 : 0 < k) (hk : k ≤ 8) : Calls Tryz.prog 56 #[.pointer (some ⟨p, 0, none⟩), .int .i64 (k : Nat)] w (Reads p w (numZ k s) fun n => .int .u64 (n : Nat)) := by
  obtain ⟨ao, c, hp, hB, h3, h4⟩ := h
  have hheld : heldI (k : Int) = k := by unfold heldI; split <;> (try split) <;> omega
  have hle := hB.le
  have hcap := hB.cap
  have hcell := hp.cell 0
  by_cases hs : k ≤ s.left.length
  · have hg := refget_ok ao s.left.length c s.left (k : Int) k w hB rfl hheld hs
    have hZ : numZ k s = (getN (s.left.take k), ⟨s.left.drop k, s.bad⟩) := by unfold numZ; rw [if_neg (by omega)]
    have hBr := hB.rest hs
    replace hg : Hid _ := hg
    replace hZ : Hid _ := hZ
    replace hheld : Hid _ := hheld
    go_enter Tryz.func56, Tryz.ntmps56
    go_wp2_with fail
    refine Calls.mono hg.out ?_
    rintro e w1 ⟨rfl, hq⟩
    clear hg
    have hcell1 := (hp.later hq).cell 0
    have hz1 := (hp.later hq).free 0
    have hfin := rd_set (s := ⟨s.left.drop k, s.bad⟩) hp hq (hB.later hq |>.rest hs) (fun ad had => by obtain ⟨d, e1, e2⟩ := rest_block had; rw [← e2]; exact h3 d e1) (by show (s.left.drop k).length ≤ _; rw [List.length_drop]; omega) rfl
    rw [show (s.left.drop k).length = s.left.length - k from List.length_drop] at hfin
    replace hfin : Hid _ := hfin
    clear hBr hB hp hcell h3
    go_wp2
    go_ret
    rw [hZ.out]
    exact ⟨rfl, hfin.out.1, hfin.out.2⟩
  · have hg := refget_short ao s.left.length c (k : Int) k w (by omega) hheld (by omega)
    have hZ : numZ k s = (0, ⟨s.left, true⟩) := by unfold numZ; rw [if_pos (by omega)]
    replace hg : Hid _ := hg
    replace hZ : Hid _ := hZ
    replace hheld : Hid _ := hheld
    go_enter Tryz.func56, Tryz.ntmps56
    go_wp2_with fail
    refine Calls.mono hg.out ?_
    rintro e w1 ⟨rfl, rfl⟩
    clear hg
    have hc1 := hp.cell 1
    have hz1 := hp.free 1
    have hp2 : Has (w1.setCell ⟨p, 1, none⟩ (.bool true)) p 113 #[.slice ao s.left.length c, .bool true] := hp.set 1 (.bool true)
    have hc0 := hp2.cell 0
    have hz0 := hp2.free 0
    have hB2 := hB.kept (p := ⟨p, 1, none⟩) (fun ad had _ => by have := h3 ad had; show ad.block ≠ p; omega) (.bool true)
    have hfin := rd_set (s := ⟨s.left, true⟩) hp2 (Below.refl _ _) hB2 h3 h4 rfl
    have hoff : OffP p w1 (w1.setCell ⟨p, 1, none⟩ (.bool true)) := OffF.but (but_cell _ _ _)
    have hall : Hid (RdI p ((w1.setCell ⟨p, 1, none⟩ (.bool true)).setCell ⟨p, 0, none⟩ (.slice ao s.left.length c)) ⟨s.left, true⟩ ∧ OffP p w1 ((w1.setCell ⟨p, 1, none⟩ (.bool true)).setCell ⟨p, 0, none⟩ (.slice ao s.left.length c))) := ⟨hfin.1, hoff.trans hfin.2⟩
    clear hfin hoff hB hB2 hp hp2 h3 hcell
    go_wp2
    go_ret
    rw [hZ.out]
    exact ⟨rfl, hall.out.1, hall.out.2⟩
set_option maxHeartbeats 2000000 in
theorem rtxt_any (p m : Nat) (w : World) (s : RS) (h : RdI p w s) (hm : m ≤ 80) : Calls Tryz.prog 96 #[.pointer (some ⟨p, 0, none⟩), .int .i64 (m : Nat)] w (Reads p w (txtZ m s) strV) := by
  obtain ⟨ao, c, hp, hB, h3, h4⟩ := h
  have hle := hB.le
  have hcap := hB.cap
  have hcell := hp.cell 0
  rcases text_cases s.left m with he | ⟨x, he, hx⟩
  · have hg := refgettext_at ao s.left.length c s.left (m : Int) w hB rfl (by omega) (by omega) he
    have hZ : txtZ m s = ((s.left.drop 2).take (lenN s.left), ⟨s.left.drop (2 + lenN s.left), s.bad⟩) := by unfold txtZ; rw [if_pos he]
    obtain ⟨hr1, hr2⟩ := text_room he
    have hT : (.string (txtOf s.left) : Value) = strV ((s.left.drop 2).take (lenN s.left)) := rfl
    replace hg : Hid _ := hg
    replace hZ : Hid _ := hZ
    replace hT : Hid _ := hT
    replace he : Hid _ := he
    go_enter Tryz.func96, Tryz.ntmps96
    go_wp2_with fail
    refine Calls.mono hg.out ?_
    rintro e w1 ⟨A, c', rfl, hB1, hq, hA⟩
    clear hg
    rw [List.drop_drop] at hB1
    have hcell1 := (hp.later hq).cell 0
    have hz1 := (hp.later hq).free 0
    have hfin := rd_set (s := ⟨s.left.drop (2 + lenN s.left), s.bad⟩) hp hq hB1 (fun ad had => by obtain ⟨d, e1, e2⟩ := hA ad had; rw [← e2]; exact h3 d e1) (by show (s.left.drop (2 + lenN s.left)).length ≤ _; rw [List.length_drop]; omega) rfl
    rw [show (s.left.drop (2 + lenN s.left)).length = s.left.length - 2 - lenN s.left by rw [List.length_drop]; omega] at hfin
    replace hfin : Hid _ := hfin
    clear hB hB1 hp hcell h3 hA
    go_wp2
    go_ret
    rw [hZ.out]
    exact ⟨rfl, hfin.out.1, hfin.out.2⟩
  · have hg := refgettext_err ao s.left.length c s.left (m : Int) w hB rfl (by omega) (by omega) (by omega) (by rw [he]; omega)
    rw [he] at hg
    have hZ : txtZ m s = ([], ⟨s.left, true⟩) := by unfold txtZ; rw [if_neg (by rw [he]; omega)]
    have hxI : ¬ (x : Int) = 0 := by omega
    have hxB : ((x : Int) != 0) = true := by simp; omega
    replace hg : Hid _ := hg
    replace hZ : Hid _ := hZ
    replace he : Hid _ := he
    go_enter Tryz.func96, Tryz.ntmps96
    go_wp2_with fail
    refine Calls.mono hg.out ?_
    rintro e w1 ⟨rfl, hq⟩
    clear hg
    have hp1 := hp.later hq
    have hc1 := hp1.cell 1
    have hz1 := hp1.free 1
    have hp2 : Has (w1.setCell ⟨p, 1, none⟩ (.bool true)) p 113 #[.slice ao s.left.length c, .bool true] := hp1.set 1 (.bool true)
    have hc0 := hp2.cell 0
    have hz0 := hp2.free 0
    have hB2 := (hB.later hq).kept (p := ⟨p, 1, none⟩) (fun ad had _ => by have := h3 ad had; show ad.block ≠ p; omega) (.bool true)
    have hfin := rd_set (s := ⟨s.left, true⟩) hp2 (Below.refl _ _) hB2 h3 h4 rfl
    have hoff : OffP p w (w1.setCell ⟨p, 1, none⟩ (.bool true)) := (OffF.of hq).trans (OffF.but (but_cell _ _ _))
    have hall : Hid (RdI p ((w1.setCell ⟨p, 1, none⟩ (.bool true)).setCell ⟨p, 0, none⟩ (.slice ao s.left.length c)) ⟨s.left, true⟩ ∧ OffP p w ((w1.setCell ⟨p, 1, none⟩ (.bool true)).setCell ⟨p, 0, none⟩ (.slice ao s.left.length c))) := ⟨hfin.1, hoff.trans hfin.2⟩
    clear hfin hoff hB hB2 hp hp1 hp2 h3 hcell
    go_wp2
    go_ret
    rw [hZ.out]
    exact ⟨rfl, hall.out.1, hall.out.2⟩


theorem modn1 (n : Nat) : ((n : Int) % 256) = ((n % 256 : Nat) : Int) := (Int.natCast_emod n 256).symm
theorem modn4 (n : Nat) : ((n : Int) % 4294967296) = ((n % 4294967296 : Nat) : Int) := (Int.natCast_emod n 4294967296).symm
theorem rop_zero : (Tryz.prog.info? 39).map (·.zero) = some (some (.agg (opC op0))) := by kernel_rfl
theorem op_built_c (y : Nat) : Tryz.prog.built 39 [(0, .int .u8 (y : Int))] = some (opC ⟨y, 0, 0, 0, 0, []⟩) := by kernel_rfl
theorem op_built1 (n : Nat) : Tryz.prog.built 39 [(0, .int .u8 ((n : Int) % 256))] = some (opC ⟨n % 256, 0, 0, 0, 0, []⟩) := by rw [modn1]; exact op_built_c _
theorem ent_built_c (y : Nat) : Tryz.prog.built 41 [(0, .int .u32 (y : Int))] = some (entC ⟨y, 0, op0⟩) := by kernel_rfl
theorem ent_built1 (n : Nat) : Tryz.prog.built 41 [(0, .int .u32 ((n : Int) % 4294967296))] = some (entC ⟨n % 4294967296, 0, op0⟩) := by rw [modn4]; exact ent_built_c _
theorem Has.ent_put {w : World} {g a b : Nat} (h : Has w g 41 (entC ⟨a, b, op0⟩)) (o : OpV) : Has (w.setCells g 2 (opC o).toList) g 41 (entC ⟨a, b, o⟩) :=
  ((((((h.set 2 (.int .u8 (o.client : Nat))).set 3 (.int .u32 (o.seq : Nat))).set 4 (.int .u8 (o.kind : Nat))).set 5 (.int .u8 (o.obj : Nat))).set 6 (.int .u8 (o.pos : Nat))).set 7 (strV o.data))
theorem Has.there6 {w : World} {g : Nat} {e : EntV} (h : Has w g 41 (entC e)) : w.there g 2 6 := by
  intro j hj
  refine ⟨?_, h.free _⟩
  rw [h.cell]
  match j, hj with
  | 0, _ => rfl
  | 1, _ => rfl
  | 2, _ => rfl
  | 3, _ => rfl
  | 4, _ => rfl
  | 5, _ => rfl
set_option maxHeartbeats 4000000 in
theorem rdop_any (p : Nat) (w : World) (s : RS) (h : RdI p w s) : Calls Tryz.prog 95 #[.pointer (some ⟨p, 0, none⟩)] w (Reads p w (opZ s) fun o => .agg (opC o)) := by
  have hp := h.lt
  obtain ⟨w1, hw1, hR, hb⟩ := one_var w 39 (opC op0)
  have h1 := h.later hb
  have o1 : Hid (OffP p w w1) := OffF.of hb
  obtain ⟨n1, s1, e1⟩ : ∃ n s', numZ 1 s = (n, s') := ⟨_, _, rfl⟩
  obtain ⟨n2, s2, e2⟩ : ∃ n s', numZ 4 s1 = (n, s') := ⟨_, _, rfl⟩
  obtain ⟨n3, s3, e3⟩ : ∃ n s', numZ 1 s2 = (n, s') := ⟨_, _, rfl⟩
  obtain ⟨n4, s4, e4⟩ : ∃ n s', numZ 1 s3 = (n, s') := ⟨_, _, rfl⟩
  obtain ⟨n5, s5, e5⟩ : ∃ n s', numZ 1 s4 = (n, s') := ⟨_, _, rfl⟩
  obtain ⟨t6, s6, e6⟩ : ∃ n s', txtZ 16 s5 = (n, s') := ⟨_, _, rfl⟩
  have hZ : Hid (opZ s = (⟨n1 % 256, n2 % 4294967296, n3 % 256, n4 % 256, n5 % 256, t6⟩, s6)) := by
    show _ = _
    simp only [opZ, oneZ, fourZ, Rd.bind, Rd.ret, e1, e2, e3, e4, e5, e6]
  have hc := rnum_any p 1 w1 s h1 (by decide) (by decide)
  rw [e1] at hc
  replace hc : Hid _ := hc
  clear h h1 hb
  go_enter Tryz.func95, Tryz.ntmps95
  go_wp2_with (first
    | (refine wpList_alloc_has (by rfl) 39 rfl (opC op0) rop_zero ?_; rw [hw1]; clear hw1)
    | fail)
  refine Calls.mono hc.out ?_
  rintro en w2 ⟨he, h2, o2⟩
  replace he : en = .returned (.int .u64 (n1 : Nat)) := he
  subst he
  clear hc
  replace hR := o2.has hR (show ¬ w.heap.size = p by omega)
  have hRl := hR.lt
  obtain ⟨w3, hw3, hX, hq⟩ := new_var w2 39 (opC op0) (opC ⟨n1 % 256, 0, 0, 0, 0, []⟩)
  replace hR := hR.later hq
  replace h2 := h2.later hq
  replace o1 : Hid (OffP p w w3) := (o1.out.trans o2).trans (OffF.of hq)
  clear o2 hq
  have hc := rnum_any p 4 w3 s1 h2 (by decide) (by decide)
  rw [e2] at hc
  replace hc : Hid _ := hc
  have hbt : Hid _ := op_built1 n1
  clear h2
  go_wp2_with (first
    | (refine wpList_build_one (by rfl) 39 0 _ rfl (.int .u8 ((n1 : Int) % 256)) rfl (opC ⟨n1 % 256, 0, 0, 0, 0, []⟩) hbt.out ?_)
    | (refine wpList_alloc_has (by rfl) 39 rfl (opC op0) rop_zero ?_)
    | (refine wpList_store_to (by rfl) 39 _ _ rfl w2.heap.size rfl (opC ⟨n1 % 256, 0, 0, 0, 0, []⟩) rfl 39 (opC op0) (op_size _) rfl (op_one _) ?hg w3 ?hW ?_; (case hg => exact Has.new _ _ _); (case hW => exact hw3); clear hw3)
    | fail)
  have hgp : w2.heap.size ≠ p := by omega
  have hgR : w.heap.size ≠ w2.heap.size := by omega
  have hRp : w.heap.size ≠ p := by omega
  clear hbt
  refine Calls.mono hc.out ?_
  rintro en w4 ⟨he, h2, o2⟩
  replace he : en = .returned (.int .u64 (n2 : Nat)) := he
  subst he
  clear hc
  replace hR := o2.has hR hRp
  replace hX := o2.has hX hgp
  replace o1 : Hid (OffP p w w4) := o1.out.trans o2
  have hcell : w4.cell? ⟨w2.heap.size, 1, none⟩ = some (.int .u32 0) := hX.cell 1
  have hfree := hX.free 1
  obtain ⟨x4, hx4⟩ : ∃ W, w4.setCell ⟨w2.heap.size, 1, none⟩ (.int .u32 ((n2 : Int) % 4294967296)) = W := ⟨_, rfl⟩
  have hX' : Has x4 w2.heap.size 39 (opC ⟨n1 % 256, n2 % 4294967296, 0, 0, 0, []⟩) := by
    rw [← hx4]
    have z := hX.set 1 (.int .u32 ((n2 : Int) % 4294967296))
    rw [modn4] at z
    exact z
  have hR' : Has x4 w.heap.size 39 (opC op0) := by rw [← hx4]; exact hR.set_other hgR _
  have h3 : RdI p x4 s2 := by rw [← hx4]; exact h2.other (but_cell _ _ _) (by show p < w2.heap.size; omega)
  have o3 : Hid (OffP p w x4) := by rw [← hx4]; exact o1.out.fresh (but_cell _ _ _) (by show w.heap.size ≤ w2.heap.size; omega)
  clear h2 o2 hX hR o1
  have hc := rnum_any p 1 x4 s2 h3 (by decide) (by decide)
  rw [e3] at hc
  replace hc : Hid _ := hc
  clear h3
  go_wp2_with fail
  try rw [hx4]
  clear hx4 hcell hfree
  have hX := hX'
  have hR := hR'
  have o1 := o3
  clear hX' hR' o3
  refine Calls.mono hc.out ?_
  rintro en w5 ⟨he, h2, o2⟩
  replace he : en = .returned (.int .u64 (n3 : Nat)) := he
  subst he
  clear hc
  replace hR := o2.has hR hRp
  replace hX := o2.has hX hgp
  replace o1 : Hid (OffP p w w5) := o1.out.trans o2
  have hcell : w5.cell? ⟨w2.heap.size, 2, none⟩ = some (.int .u8 0) := hX.cell 2
  have hfree := hX.free 2
  obtain ⟨x5, hx5⟩ : ∃ W, w5.setCell ⟨w2.heap.size, 2, none⟩ (.int .u8 ((n3 : Int) % 256)) = W := ⟨_, rfl⟩
  have hX' : Has x5 w2.heap.size 39 (opC ⟨n1 % 256, n2 % 4294967296, n3 % 256, 0, 0, []⟩) := by
    rw [← hx5]
    have z := hX.set 2 (.int .u8 ((n3 : Int) % 256))
    rw [modn1] at z
    exact z
  have hR' : Has x5 w.heap.size 39 (opC op0) := by rw [← hx5]; exact hR.set_other hgR _
  have h3 : RdI p x5 s3 := by rw [← hx5]; exact h2.other (but_cell _ _ _) (by show p < w2.heap.size; omega)
  have o3 : Hid (OffP p w x5) := by rw [← hx5]; exact o1.out.fresh (but_cell _ _ _) (by show w.heap.size ≤ w2.heap.size; omega)
  clear h2 o2 hX hR o1
  have hc := rnum_any p 1 x5 s3 h3 (by decide) (by decide)
  rw [e4] at hc
  replace hc : Hid _ := hc
  clear h3
  go_wp2_with fail
  try rw [hx5]
  clear hx5 hcell hfree
  have hX := hX'
  have hR := hR'
  have o1 := o3
  clear hX' hR' o3
  refine Calls.mono hc.out ?_
  rintro en w6 ⟨he, h2, o2⟩
  replace he : en = .returned (.int .u64 (n4 : Nat)) := he
  subst he
  clear hc
  replace hR := o2.has hR hRp
  replace hX := o2.has hX hgp
  replace o1 : Hid (OffP p w w6) := o1.out.trans o2
  have hcell : w6.cell? ⟨w2.heap.size, 3, none⟩ = some (.int .u8 0) := hX.cell 3
  have hfree := hX.free 3
  obtain ⟨x6, hx6⟩ : ∃ W, w6.setCell ⟨w2.heap.size, 3, none⟩ (.int .u8 ((n4 : Int) % 256)) = W := ⟨_, rfl⟩
  have hX' : Has x6 w2.heap.size 39 (opC ⟨n1 % 256, n2 % 4294967296, n3 % 256, n4 % 256, 0, []⟩) := by
    rw [← hx6]
    have z := hX.set 3 (.int .u8 ((n4 : Int) % 256))
    rw [modn1] at z
    exact z
  have hR' : Has x6 w.heap.size 39 (opC op0) := by rw [← hx6]; exact hR.set_other hgR _
  have h3 : RdI p x6 s4 := by rw [← hx6]; exact h2.other (but_cell _ _ _) (by show p < w2.heap.size; omega)
  have o3 : Hid (OffP p w x6) := by rw [← hx6]; exact o1.out.fresh (but_cell _ _ _) (by show w.heap.size ≤ w2.heap.size; omega)
  clear h2 o2 hX hR o1
  have hc := rnum_any p 1 x6 s4 h3 (by decide) (by decide)
  rw [e5] at hc
  replace hc : Hid _ := hc
  clear h3
  go_wp2_with fail
  try rw [hx6]
  clear hx6 hcell hfree
  have hX := hX'
  have hR := hR'
  have o1 := o3
  clear hX' hR' o3
  refine Calls.mono hc.out ?_
  rintro en w7 ⟨he, h2, o2⟩
  replace he : en = .returned (.int .u64 (n5 : Nat)) := he
  subst he
  clear hc
  replace hR := o2.has hR hRp
  replace hX := o2.has hX hgp
  replace o1 : Hid (OffP p w w7) := o1.out.trans o2
  have hcell : w7.cell? ⟨w2.heap.size, 4, none⟩ = some (.int .u8 0) := hX.cell 4
  have hfree := hX.free 4
  obtain ⟨x7, hx7⟩ : ∃ W, w7.setCell ⟨w2.heap.size, 4, none⟩ (.int .u8 ((n5 : Int) % 256)) = W := ⟨_, rfl⟩
  have hX' : Has x7 w2.heap.size 39 (opC ⟨n1 % 256, n2 % 4294967296, n3 % 256, n4 % 256, n5 % 256, []⟩) := by
    rw [← hx7]
    have z := hX.set 4 (.int .u8 ((n5 : Int) % 256))
    rw [modn1] at z
    exact z
  have hR' : Has x7 w.heap.size 39 (opC op0) := by rw [← hx7]; exact hR.set_other hgR _
  have h3 : RdI p x7 s5 := by rw [← hx7]; exact h2.other (but_cell _ _ _) (by show p < w2.heap.size; omega)
  have o3 : Hid (OffP p w x7) := by rw [← hx7]; exact o1.out.fresh (but_cell _ _ _) (by show w.heap.size ≤ w2.heap.size; omega)
  clear h2 o2 hX hR o1
  have hc := rtxt_any p 16 x7 s5 h3 (by decide)
  rw [e6] at hc
  replace hc : Hid _ := hc
  clear h3
  go_wp2_with fail
  try rw [hx7]
  clear hx7 hcell hfree
  have hX := hX'
  have hR := hR'
  have o1 := o3
  clear hX' hR' o3
  refine Calls.mono hc.out ?_
  rintro en w8 ⟨he, h2, o2⟩
  replace he : en = .returned (.string (mkS t6)) := he
  subst he
  clear hc
  replace hR := o2.has hR hRp
  replace hX := o2.has hX hgp
  replace o1 : Hid (OffP p w w8) := o1.out.trans o2
  have hcell : w8.cell? ⟨w2.heap.size, 5, none⟩ = some (.string (mkS [])) := hX.cell 5
  have hfree := hX.free 5
  obtain ⟨x8, hx8⟩ : ∃ W, w8.setCell ⟨w2.heap.size, 5, none⟩ (.string (mkS t6)) = W := ⟨_, rfl⟩
  have hX' : Has x8 w2.heap.size 39 (opC ⟨n1 % 256, n2 % 4294967296, n3 % 256, n4 % 256, n5 % 256, t6⟩) := by
    rw [← hx8]
    have z := hX.set 5 (.string (mkS t6))
    exact z
  have hR' : Has x8 w.heap.size 39 (opC op0) := by rw [← hx8]; exact hR.set_other hgR _
  have h3 : RdI p x8 s6 := by rw [← hx8]; exact h2.other (but_cell _ _ _) (by show p < w2.heap.size; omega)
  have o3 : Hid (OffP p w x8) := by rw [← hx8]; exact o1.out.fresh (but_cell _ _ _) (by show w.heap.size ≤ w2.heap.size; omega)
  clear h2 o2 hX hR o1
  have hE : Hid (Reads p w (opZ s) (fun o => .agg (opC o)) (.returned (.agg (opC ⟨n1 % 256, n2 % 4294967296, n3 % 256, n4 % 256, n5 % 256, t6⟩))) (x8.setRow w.heap.size (opC ⟨n1 % 256, n2 % 4294967296, n3 % 256, n4 % 256, n5 % 256, t6⟩))) := by
    refine ⟨by rw [hZ.out], ?_, ?_⟩
    · rw [hZ.out]
      exact h3.other (but_row _ _) hp
    · exact o3.out.fresh (but_row _ _) (Nat.le_refl _)
  have hRf := hR'.row (opC ⟨n1 % 256, n2 % 4294967296, n3 % 256, n4 % 256, n5 % 256, t6⟩)
  clear h3 o3 hZ
  go_wp2_with (first
    | (refine wpList_load_has (by rfl) 39 _ rfl w2.heap.size rfl 39 (opC ⟨n1 % 256, n2 % 4294967296, n3 % 256, n4 % 256, n5 % 256, t6⟩) _ Tryz.underlying39 rfl (op_size _) ?hg ?_; (case hg => (try rw [hx8]); exact hX'))
    | (refine wpList_store_to (by rfl) 39 _ _ rfl w.heap.size rfl (opC ⟨n1 % 256, n2 % 4294967296, n3 % 256, n4 % 256, n5 % 256, t6⟩) rfl 39 (opC op0) (op_size _) rfl (op_one _) ?hg _ rfl ?_; (case hg => (try rw [hx8]); exact hR'); (try rw [hx8]))
    | fail)
  exact ret_has rfl w.heap.size rfl 39 (opC ⟨n1 % 256, n2 % 4294967296, n3 % 256, n4 % 256, n5 % 256, t6⟩) _ Tryz.underlying39 rfl (op_size _) hRf rfl hE.out
set_option maxHeartbeats 4000000 in
theorem rdent_any (p : Nat) (w : World) (s : RS) (h : RdI p w s) : Calls Tryz.prog 124 #[.pointer (some ⟨p, 0, none⟩)] w (Reads p w (entZ s) fun o => .agg (entC o)) := by
  have hp := h.lt
  obtain ⟨w1, hw1, hR, hb⟩ := one_var w 41 (entC ent0)
  have h1 := h.later hb
  have o1 : Hid (OffP p w w1) := OffF.of hb
  obtain ⟨n1, s1, e1⟩ : ∃ n s', numZ 4 s = (n, s') := ⟨_, _, rfl⟩
  obtain ⟨n2, s2, e2⟩ : ∃ n s', numZ 4 s1 = (n, s') := ⟨_, _, rfl⟩
  obtain ⟨y3, s3, e3⟩ : ∃ n s', opZ s2 = (n, s') := ⟨_, _, rfl⟩
  have hZ : Hid (entZ s = (⟨n1 % 4294967296, n2 % 4294967296, y3⟩, s3)) := by
    show _ = _
    simp only [entZ, fourZ, Rd.bind, Rd.ret, e1, e2, e3]
  have hc := rnum_any p 4 w1 s h1 (by decide) (by decide)
  rw [e1] at hc
  replace hc : Hid _ := hc
  clear h h1 hb
  go_enter Tryz.func124, Tryz.ntmps124
  go_wp2_with (first
    | (refine wpList_alloc_has (by rfl) 41 rfl (entC ent0) ent_zero ?_; rw [hw1]; clear hw1)
    | fail)
  refine Calls.mono hc.out ?_
  rintro en w2 ⟨he, h2, o2⟩
  replace he : en = .returned (.int .u64 (n1 : Nat)) := he
  subst he
  clear hc
  replace hR := o2.has hR (show ¬ w.heap.size = p by omega)
  have hRl := hR.lt
  obtain ⟨w3, hw3, hX, hq⟩ := new_var w2 41 (entC ent0) (entC ⟨n1 % 4294967296, 0, op0⟩)
  replace hR := hR.later hq
  replace h2 := h2.later hq
  replace o1 : Hid (OffP p w w3) := (o1.out.trans o2).trans (OffF.of hq)
  clear o2 hq
  have hc := rnum_any p 4 w3 s1 h2 (by decide) (by decide)
  rw [e2] at hc
  replace hc : Hid _ := hc
  have hbt : Hid _ := ent_built1 n1
  clear h2
  go_wp2_with (first
    | (refine wpList_build_one (by rfl) 41 0 _ rfl (.int .u32 ((n1 : Int) % 4294967296)) rfl (entC ⟨n1 % 4294967296, 0, op0⟩) hbt.out ?_)
    | (refine wpList_alloc_has (by rfl) 41 rfl (entC ent0) ent_zero ?_)
    | (refine wpList_store_to (by rfl) 41 _ _ rfl w2.heap.size rfl (entC ⟨n1 % 4294967296, 0, op0⟩) rfl 41 (entC ent0) (ent_size _) rfl (ent_one _) ?hg w3 ?hW ?_; (case hg => exact Has.new _ _ _); (case hW => exact hw3); clear hw3)
    | fail)
  have hgp : w2.heap.size ≠ p := by omega
  have hgR : w.heap.size ≠ w2.heap.size := by omega
  have hRp : w.heap.size ≠ p := by omega
  clear hbt
  refine Calls.mono hc.out ?_
  rintro en w4 ⟨he, h2, o2⟩
  replace he : en = .returned (.int .u64 (n2 : Nat)) := he
  subst he
  clear hc
  replace hR := o2.has hR hRp
  replace hX := o2.has hX hgp
  replace o1 : Hid (OffP p w w4) := o1.out.trans o2
  have hcell : w4.cell? ⟨w2.heap.size, 1, none⟩ = some (.int .u32 0) := hX.cell 1
  have hfree := hX.free 1
  obtain ⟨x4, hx4⟩ : ∃ W, w4.setCell ⟨w2.heap.size, 1, none⟩ (.int .u32 ((n2 : Int) % 4294967296)) = W := ⟨_, rfl⟩
  have hX' : Has x4 w2.heap.size 41 (entC ⟨n1 % 4294967296, n2 % 4294967296, op0⟩) := by
    rw [← hx4]
    have z := hX.set 1 (.int .u32 ((n2 : Int) % 4294967296))
    rw [modn4] at z
    exact z
  have hR' : Has x4 w.heap.size 41 (entC ent0) := by rw [← hx4]; exact hR.set_other hgR _
  have h3 : RdI p x4 s2 := by rw [← hx4]; exact h2.other (but_cell _ _ _) (by show p < w2.heap.size; omega)
  have o3 : Hid (OffP p w x4) := by rw [← hx4]; exact o1.out.fresh (but_cell _ _ _) (by show w.heap.size ≤ w2.heap.size; omega)
  clear h2 o2 hX hR o1
  have hc := rdop_any p x4 s2 h3
  rw [e3] at hc
  replace hc : Hid _ := hc
  clear h3
  go_wp2_with fail
  try rw [hx4]
  clear hx4 hcell hfree
  have hX := hX'
  have hR := hR'
  have o1 := o3
  clear hX' hR' o3
  refine Calls.mono hc.out ?_
  rintro en w5 ⟨he, h2, o2⟩
  replace he : en = .returned (.agg (opC y3)) := he
  subst he
  clear hc
  replace hR := o2.has hR hRp
  replace hX := o2.has hX hgp
  replace o1 : Hid (OffP p w w5) := o1.out.trans o2
  have ht : Hid (w5.there w2.heap.size 2 6) := hX.there6
  obtain ⟨x5, hx5⟩ : ∃ W, w5.setCells w2.heap.size 2 (opC y3).toList = W := ⟨_, rfl⟩
  have hX' : Has x5 w2.heap.size 41 (entC ⟨n1 % 4294967296, n2 % 4294967296, y3⟩) := by rw [← hx5]; exact hX.ent_put y3
  have hR' : Has x5 w.heap.size 41 (entC ent0) := by rw [← hx5]; exact hR.cells_other hgR _ _
  have h3 : RdI p x5 s3 := by rw [← hx5]; exact h2.other (but_setCells _ _) (by omega)
  have o3 : Hid (OffP p w x5) := by rw [← hx5]; exact o1.out.fresh (but_setCells _ _) (by omega)
  clear h2 o2 hX hR o1
  have hE : Hid (Reads p w (entZ s) (fun o => .agg (entC o)) (.returned (.agg (entC ⟨n1 % 4294967296, n2 % 4294967296, y3⟩))) (x5.setRow w.heap.size (entC ⟨n1 % 4294967296, n2 % 4294967296, y3⟩))) := by
    refine ⟨by rw [hZ.out], ?_, ?_⟩
    · rw [hZ.out]
      exact h3.other (but_row _ _) hp
    · exact o3.out.fresh (but_row _ _) (Nat.le_refl _)
  have hRf := hR'.row (entC ⟨n1 % 4294967296, n2 % 4294967296, y3⟩)
  clear h3 o3 hZ
  go_wp2_with (first
    | (refine wpList_store_mid' (by rfl) 39 _ _ rfl w2.heap.size 2 (opC y3) rfl rfl ?ht (op_size _) (op_one _) ?_; (case ht => exact ht.out))
    | (refine wpList_load_has (by rfl) 41 _ rfl w2.heap.size rfl 41 (entC ⟨n1 % 4294967296, n2 % 4294967296, y3⟩) _ Tryz.underlying41 rfl (ent_size _) ?hg ?_; (case hg => (try rw [hx5]); exact hX'))
    | (refine wpList_store_to (by rfl) 41 _ _ rfl w.heap.size rfl (entC ⟨n1 % 4294967296, n2 % 4294967296, y3⟩) rfl 41 (entC ent0) (ent_size _) rfl (ent_one _) ?hg _ rfl ?_; (case hg => (try rw [hx5]); exact hR'); (try rw [hx5]))
    | fail)
  exact ret_has rfl w.heap.size rfl 41 (entC ⟨n1 % 4294967296, n2 % 4294967296, y3⟩) _ Tryz.underlying41 rfl (ent_size _) hRf rfl hE.out


section
variable {P : Program} {ops : Array Oper} {rest : List Oper} {o : Oper} {a : Act} {w : World} {Q : Exit → Act → World → Prop}
theorem wpList_slice_w (hw : Region.wanted o (yielded ops a.tmps) = true) (t : TypeId) (n : Nat) (parts : Array (Nat × Operand)) (ho : o.op = .buildSlice t n parts) (vs : Array (Nat × Value)) (hp : (parts.map fun (i, x) => (i, a.eval x)) = vs) (v : Value) (W : World) (hr : (Instr.buildSlice t n vs).run P w = .ok v W)
    (h : wpList P ops Q rest (a.put o.dst v) W) : wpList P ops Q (o :: rest) a w := by
  refine BigFrame.wpList_want hw fun K hK => ?_
  have e : (execOp a.eval o).run P w = .ok (.value v) W := by
    unfold execOp
    simp only [ho]
    simp only [hp, Sem.run_bind, hr, Result.andThen_ok, Sem.run_pure]
  unfold Oper.wp
  rw [e]
  exact hK _ _ h
theorem wpList_slice_w1 (hw : Region.wanted o (yielded ops a.tmps) = true) (t : TypeId) (x : Operand) (ho : o.op = .buildSlice t 1 #[(0, x)]) (p : Value) (hx : a.eval x = p) (v : Value) (W : World) (hr : (Instr.buildSlice t 1 #[(0, p)]).run P w = .ok v W)
    (h : wpList P ops Q rest (a.put o.dst v) W) : wpList P ops Q (o :: rest) a w :=
  wpList_slice_w hw t 1 _ ho #[(0, p)] (by simp [hx]) v W hr h
end
theorem slice_ent_w (e : EntV) (w : World) : (Instr.buildSlice 42 1 #[(0, .agg (entC e))]).run Tryz.prog w = .ok (.slice (some ⟨w.heap.size, 0, none⟩) 1 1) (w.alloc (.cells (entC e) 41)) := by
  have h : (Instr.buildSlice 42 1 #[(0, .agg (entC e))]).run Tryz.prog w = ((newRow 41 (entC e)).run Tryz.prog w).andThen (fun a w => .ok (.slice (some a) 1 1) w) := by kernel_rfl
  rw [h]
  simp [newRow, run_newObj_alloc, Sem.run_bind, Sem.run_pure, Result.andThen]

theorem ent_w1 (w : World) (e : EntV) : ∃ W, w.alloc (.cells (entC e) 41) = W ∧ Sl W (some ⟨w.heap.size, 0, none⟩) 1 8 (entR [e]) ∧ Below w.heap.size w W := by
  refine ⟨_, rfl, ?_, (Below.refl _ _).alloc (Nat.le_refl _) _⟩
  have h : Has (w.alloc (.cells (entC e) 41)) w.heap.size 41 (entF [e]).toArray := by
    have := Has.new w 41 (entC e)
    have e2 : entF [e] = entL e := by unfold entF entR; simp
    rw [e2]
    exact this
  exact h.ents (by simp)
theorem ent_infoW : ∃ i, Tryz.prog.info? 41 = some i ∧ i.zero = some (.agg (entC ent0)) ∧ i.size = 8 ∧ i.bytes = 40 := by
  have h : (Tryz.prog.info? 41).map (fun i => (i.zero, i.size, i.bytes)) = some (some (.agg (entC ent0)), 8, 40) := by kernel_rfl
  cases hi : Tryz.prog.info? 41 with
  | none => rw [hi] at h; cases h
  | some i =>
    rw [hi] at h
    simp only [Option.map_some, Option.some.injEq, Prod.mk.injEq] at h
    exact ⟨i, rfl, h.1, h.2.1, h.2.2⟩
theorem run_appendW (w : World) (ty : TypeId) (base : Nat) (v : Value) (m l : List EntV) (hown : w.ownsRow base 41 8 v m.length (entF m)) (ao : Option Addr) (c : Nat) (h : Sl w ao c 8 (entR l)) (hl : m.length + l.length ≤ 1000) (hbase : base ≤ w.heap.size) :
    ∃ v' w', (Builtin.append_ #[42, 42] ty #[v, .slice ao l.length c]).run Tryz.prog w = .ok v' w' ∧ w'.ownsRow base 41 8 v' (m ++ l).length (entF (m ++ l)) ∧ w.grownBy w' v.ownBlock := by
  obtain ⟨i0, hi, hz0, hz1, hz2⟩ := ent_infoW
  cases ao with
  | none =>
    have h0 : l = [] := by have := h.nil rfl; have := h.ent_le; exact List.eq_nil_of_length_eq_zero (by omega)
    have hc := h.nil rfl
    subst h0 hc
    exact ⟨v, w, run_append_owned_none (P := Tryz.prog) (w := w) base 42 ty 41 i0 8 Tryz.underlying42 hi v m.length (entF m) hown, by rw [List.append_nil]; exact hown, World.grownBy.refl _ _⟩
  | some ad =>
    obtain ⟨v', w', hr, h2, h3, h4, h5⟩ := run_append_own_at (P := Tryz.prog) w base 42 ty 41 i0 (.agg (entC ent0)) 8 40 Tryz.underlying42 hi hz0 hz1 hz2 rfl (by decide) v m.length (entF m) hown ad l.length c (entF l) (entF_len l) h.cells (entF_one l) (by unfold maxLen; omega) (by omega) hbase
    refine ⟨v', w', hr, ?_, h3⟩
    rw [List.length_append, entF_app]
    exact h2
theorem own_nilW (w : World) (base : Nat) : w.ownsRow base 41 8 (.slice none 0 0) ([] : List EntV).length (entF []) := World.ownsRow_nil _ _ _ _
/-- A row of one's own, as a slice of entries. -/
theorem ents_ownW {w : World} {base n : Nat} {v : Value} {l : List EntV} (h : w.ownsRow base 41 8 v n (entF l)) : ∃ ao c, v = .slice ao l.length c ∧ Sl w ao c 8 (entR l) ∧ (∀ d, ao = some d → base ≤ d.block ∧ d.block < w.heap.size) := by
  have hl : n = l.length := by have := h.1; rw [entF_len] at this; omega
  subst hl
  rcases h.2 with ⟨hv, h0⟩ | ⟨g, cap, cur, hv, hg, hc, hle, hm, hcur⟩
  · have : l = [] := List.eq_nil_of_length_eq_zero (by omega)
    subst this
    exact ⟨none, 0, by rw [hv]; rfl, Sl.nothing _ _, fun d hd => by cases hd⟩
  · refine ⟨some ⟨g, 0, none⟩, cap, hv, ⟨by rw [entR_len]; omega, Nat.le_trans hm (by unfold maxLen; omega), (fun h => by cases h), entR_each l, fun ad had i hi j hj => ?_⟩, fun d hd => by obtain rfl := Option.some.inj hd; exact ⟨hg, (Array.getElem?_eq_some_iff.1 hc).1⟩⟩
    obtain rfl := Option.some.inj had
    have hf := flatten_at (entR l) (entR_each l) i hi j hj
    have hl3 := entR_each l _ (List.getElem_mem hi)
    rw [List.getElem?_eq_getElem (show j < ((entR l)[i]).length by omega)] at hf ⊢
    exact h.cells (g := g) (by rw [hv]; rfl) _ _ hf
theorem run_append_opW {o : Oper} {ev : Operand → Value} (s x : Operand) (t u : TypeId) (hop : o.op = .call { callee := .builtin .append, args := #[s, x], argTypes := #[t, u] }) (v xv : Value) (hs : ev s = v) (hx : ev x = xv) (v' : Value) (w W : World) (hr : (Builtin.append_ #[t, u] o.type #[v, xv]).run Tryz.prog w = .ok v' W) : (execOp ev o).run Tryz.prog w = .ok (.value v') W := by
  unfold execOp
  simp only [hop, resolve, invoke, builtin, Sem.run_bind, Sem.run_pure, Result.andThen_ok, List.map_toArray, List.map_cons, List.map_nil, hs, hx, hr]
theorem wpList_appendW {ops : Array Oper} {rest : List Oper} {o : Oper} {a : Act} {w : World} {Q : Exit → Act → World → Prop} (hw : Region.wanted o (yielded ops a.tmps) = true) (s x : Operand) (t u : TypeId) (hop : o.op = .call { callee := .builtin .append, args := #[s, x], argTypes := #[t, u] }) (v xv : Value) (hs : a.eval s = v) (hx : a.eval x = xv) (v' : Value) (W : World) (hr : (Builtin.append_ #[t, u] o.type #[v, xv]).run Tryz.prog w = .ok v' W)
    (h : wpList Tryz.prog ops Q rest (a.put o.dst v') W) : wpList Tryz.prog ops Q (o :: rest) a w := by
  refine BigFrame.wpList_want hw fun K hK => ?_
  unfold Oper.wp
  rw [run_append_opW s x t u hop v xv hs hx v' w W hr]
  exact hK _ _ h


theorem RdI.at {p : Nat} {w w' : World} {s : RS} (h : RdI p w s) (hk : ∀ i, i ≤ p → w'.heap[i]? = w.heap[i]?) : RdI p w' s := by
  obtain ⟨ao, c, h1, h2, h3, h4⟩ := h
  refine ⟨ao, c, ?_, h2.at (fun ad had _ => hk _ (by have := h3 ad had; omega)), h3, h4⟩
  unfold Has at *
  rw [hk p (Nat.le_refl _)]
  exact h1
theorem RdI.under {p B : Nat} {w w' : World} {s : RS} (h : RdI p w s) (hb : Below B w w') (hp : p < B) : RdI p w' s := h.at fun i hi => hb.block i (by omega)
theorem OffF.under {F : Nat → Prop} {w w' w'' : World} {B : Nat} (h : OffF F w w') (k : Below B w' w'') (hB : w.heap.size ≤ B) : OffF F w w'' :=
  ⟨k.os.trans h.os, k.tape.trans h.tape, k.output.trans h.output, Nat.le_trans h.size k.size, fun i hi hn => (k.block i (Nat.lt_of_lt_of_le hi hB)).trans (h.block i hi hn)⟩
theorem own_off {w w' : World} {base p : Nat} {v : Value} {n : Nat} {xs : List Value} {t : TypeId} {z : Nat} (h : w.ownsRow base t z v n xs) (ho : OffP p w w') (hp : p < base) : w'.ownsRow base t z v n xs := by
  refine ⟨h.1, ?_⟩
  rcases h.2 with h2 | ⟨g, cap, cur, hv, hg, hc, hr⟩
  · exact .inl h2
  · exact .inr ⟨g, cap, cur, hv, hg, (ho.block g (Array.getElem?_eq_some_iff.1 hc).1 (show ¬ g = p by omega)).trans hc, hr⟩
theorem rd_bad {p : Nat} {w : World} {s : RS} (h : RdI p w s) : RdI p (w.setCell ⟨p, 1, none⟩ (.bool true)) ⟨s.left, true⟩ ∧ OffP p w (w.setCell ⟨p, 1, none⟩ (.bool true)) := by
  obtain ⟨ao, c, h1, h2, h3, h4⟩ := h
  exact ⟨⟨ao, c, h1.set 1 (.bool true), h2.kept (p := ⟨p, 1, none⟩) (fun ad had _ => by have := h3 ad had; show ad.block ≠ p; omega) (.bool true), h3, h4⟩, OffF.but (but_cell _ _ _)⟩
theorem RdI.bad {p : Nat} {w : World} {s : RS} (h : RdI p w s) : w.cell? ⟨p, 1, none⟩ = some (.bool s.bad) ∧ w.frozen? ⟨p, 1, none⟩ = false := by
  obtain ⟨ao, c, h1, _⟩ := h
  exact ⟨h1.cell 1, h1.free 1⟩
theorem num1_lt (s : RS) : (numZ 1 s).1 < 256 := by
  unfold numZ
  split
  · show 0 < _; decide
  · rename_i h
    exact getN_bd (s.left.take 1) 1 (by rw [List.length_take]; omega) (by decide)
theorem logTo_stop {n f i : Nat} {l : List EntV} {s : RS} (h : ¬ (i < n ∧ i ≤ 6 ∧ s.bad = false)) : logTo n f i l s = (l, s) := by
  cases f with
  | zero => rfl
  | succ f => exact if_neg h
theorem logTo_go {n f i : Nat} {l : List EntV} {s : RS} (h : i < n ∧ i ≤ 6 ∧ s.bad = false) : logTo n (f + 1) i l s = logTo n f (i + 1) (l ++ [(entZ s).1]) (entZ s).2 := if_pos h
def LogR (p : Nat) (w : World) (r : List EntV × RS) (e : Ending) (w' : World) : Prop := ∃ ao c, e = .returned (.slice ao r.1.length c) ∧ Sl w' ao c 8 (entR r.1) ∧ (∀ d, ao = some d → w.heap.size ≤ d.block ∧ d.block < w'.heap.size) ∧ RdI p w' r.2 ∧ OffP p w w'
theorem LogR.of {p : Nat} {w w' : World} {v : Value} {r : List EntV × RS} {l : List EntV} {s : RS} (hr : r = (l, s)) (ho : w'.ownsRow w.heap.size 41 8 v l.length (entF l)) (h : RdI p w' s) (o : OffP p w w') : LogR p w r (.returned v) w' := by
  subst hr
  obtain ⟨ao, c, rfl, hS, hn⟩ := ents_ownW ho
  exact ⟨ao, c, rfl, hS, hn, h, o⟩
set_option maxHeartbeats 4000000 in
theorem rdlog_any (p : Nat) (w : World) (s : RS) (h : RdI p w s) : Calls Tryz.prog 104 #[.pointer (some ⟨p, 0, none⟩)] w (LogR p w (logZ s)) := by
  have hp := h.lt
  have hc := rnum_any p 1 w s h (by decide) (by decide)
  have hn := num1_lt s
  obtain ⟨n, s1, e1⟩ : ∃ n s', numZ 1 s = (n, s') := ⟨_, _, rfl⟩
  rw [e1] at hc hn
  replace hn : n < 256 := hn
  have hZ : Hid (∀ l s2, logTo n 7 0 [] s1 = (l, s2) → logZ s = (l, ⟨s2.left, s2.bad || decide (6 < n)⟩)) := fun l s2 e2 => by
    have em : n % 256 = n := Nat.mod_eq_of_lt hn
    simp only [logZ, oneZ, badZ, Rd.bind, Rd.ret, e1, em, e2]
  have hnw : ((n : Nat) : Int) % 18446744073709551616 = (n : Int) := by omega
  replace hc : Hid _ := hc
  clear h
  go_enter Tryz.func104, Tryz.ntmps104
  go_wp2_with fail
  refine Calls.mono hc.out ?_
  rintro en w1 ⟨he, h1, o1⟩
  replace he : en = .returned (.int .u64 (n : Nat)) := he
  subst he
  clear hc
  have hb0 := o1.size
  go_wp2
  go_loopw [4, 5] (fun uu i wr => ∃ u k l s2, u = uu ∧ k ≤ 7 ∧ l.length = k ∧ i = .int .i64 (k : Nat) ∧ wr.ownsRow w.heap.size 41 8 u l.length (entF l) ∧ RdI p wr s2 ∧ OffP p w wr ∧ logTo n (7 - k) k l s2 = logTo n 7 0 [] s1) (fun _ i _ => 7 - (intOf i).toNat)
  case atStart => exact ⟨_, 0, [], s1, rfl, by decide, rfl, rfl, own_nilW _ _, h1, o1, rfl⟩
  case round =>
    clear h1 o1
    obtain ⟨u, k, l, s2, rfl, hk, hl, rfl, hown, h2, o2, hT⟩ := hrel
    obtain ⟨hcell, hfree⟩ := h2.bad
    by_cases hgo : k < n ∧ k ≤ 6 ∧ s2.bad = false
    · obtain ⟨g1, g2, g3⟩ := hgo
      rw [g3] at hcell
      have g1I : (k : Int) < (n : Int) := by omega
      have g2I : (k : Int) ≤ 6 := by omega
      have hc := rdent_any p wr s2 h2
      obtain ⟨x, s3, e3⟩ : ∃ x s', entZ s2 = (x, s') := ⟨_, _, rfl⟩
      have hT2 : Hid (logTo n (7 - (k + 1)) (k + 1) (l ++ [x]) s3 = logTo n 7 0 [] s1) := by
        show _ = _
        rw [← hT, show 7 - k = (7 - (k + 1)) + 1 by omega, logTo_go ⟨g1, g2, g3⟩, e3]
      rw [e3] at hc
      replace hc : Hid _ := hc
      replace o2 : Hid _ := o2
      replace hown : Hid _ := hown
      clear hT h2 e3
      go_wp2_with fail
      refine Calls.mono hc.out ?_
      rintro en w3 ⟨he, h3, o3⟩
      replace he : en = .returned (.agg (entC x)) := he
      subst he
      clear hc
      obtain ⟨w4, hw4, hS4, hq4⟩ := ent_w1 w3 x
      have hs3 : w.heap.size ≤ w3.heap.size := Nat.le_trans o2.out.size o3.size
      have hown4 : w4.ownsRow w.heap.size 41 8 u l.length (entF l) := by rw [← hw4]; exact (own_off hown.out o3 hp).alloc _
      obtain ⟨v5, w5, hr5, hown5, hg5⟩ := run_appendW w4 42 w.heap.size u l [x] hown4 (some ⟨w3.heap.size, 0, none⟩) 1 hS4 (by show _ + 1 ≤ _; omega) (Nat.le_trans hs3 hq4.size)
      have hb5 : Below w.heap.size w4 w5 := (Below.refl _ _).grown hg5 (Nat.le_trans hs3 hq4.size) (fun k hk => (hown4.lt k hk).1)
      have h5 : Hid (RdI p w5 s3) := (h3.later hq4).under hb5 hp
      have o5 : Hid (OffP p w w5) := ((o2.out.trans o3).next hq4).under hb5 (Nat.le_refl _)
      replace hown5 : Hid _ := hown5
      have hlx : Hid ((l ++ [x]).length = k + 1) := by show _ = _; rw [List.length_append, hl]; rfl
      clear o2 hown o3 h3 hS4 hown4 hb5 hg5 hs3
      go_wp2_with (first
        | (refine wpList_slice_w1 (by rfl) 42 _ rfl (.agg (entC x)) rfl (.slice (some ⟨w3.heap.size, 0, none⟩) 1 1) w4 ?hr ?_; (case hr => exact hw4 ▸ slice_ent_w x _))
        | (at_builtin; refine wpList_appendW (by rfl) _ _ 42 42 rfl u (.slice (some ⟨w3.heap.size, 0, none⟩) 1 1) rfl rfl v5 w5 ?hr ?_; (case hr => exact hr5))
        | fail)
      go_roundw
      case rel => exact ⟨_, k + 1, l ++ [x], s3, rfl, by omega, hlx.out, by go_num, hown5.out, h5.out, o5.out, hT2.out⟩
      case measure => simp [intOf]; omega
    · have hdone : Hid _ := hZ.out l s2 (by rw [← hT]; exact logTo_stop hgo)
      clear hT
      have hfin : Hid (LogR p w (l, s2) (.returned u) wr) := LogR.of rfl hown h2 o2
      obtain ⟨hB1, hB2⟩ := rd_bad h2
      have hown2 := own_off hown hB2 hp
      have hfin2 : Hid (LogR p w (l, ⟨s2.left, true⟩) (.returned u) (wr.setCell ⟨p, 1, none⟩ (.bool true))) := LogR.of rfl hown2 hB1 (o2.trans hB2)
      clear hB1 hB2 hown2 hown h2 o2
      have hstop : Hid (¬ (k < n ∧ k ≤ 6 ∧ s2.bad = false)) := hgo
      clear hgo
      obtain ⟨bd, hbd⟩ : ∃ b, b = s2.bad := ⟨_, rfl⟩
      rw [← hbd] at hcell
      have key : ∀ {G : Prop}, ((¬ (k : Int) < (n : Int)) → G) → ((k : Int) < (n : Int) → ¬ (k : Int) ≤ 6 → G) → ((k : Int) < (n : Int) → (k : Int) ≤ 6 → bd = true → G) → G := fun a b c => by
        by_cases q1 : k < n
        · by_cases q2 : k ≤ 6
          · exact c (by omega) (by omega) (by rw [hbd]; cases hb : s2.bad with
              | true => rfl
              | false => exact absurd ⟨q1, q2, hb⟩ hstop.out)
          · exact b (by omega) (by omega)
        · exact a (by omega)
      have hend : Hid (if 6 < n then LogR p w (logZ s) (.returned u) (wr.setCell ⟨p, 1, none⟩ (.bool true)) else LogR p w (logZ s) (.returned u) wr) := by
        show if _ then _ else _
        rw [hdone.out]
        by_cases h6 : 6 < n
        · rw [if_pos h6, decide_eq_true h6, Bool.or_true]; exact hfin2.out
        · rw [if_neg h6, decide_eq_false h6, Bool.or_false]; exact hfin.out
      replace hbd : Hid _ := hbd
      clear hdone hfin hfin2 hstop
      by_cases h6 : 6 < n
      · have h6I : (6 : Int) < (n : Int) := by omega
        rw [if_pos h6] at hend
        refine key (fun a => ?_) (fun a b => ?_) (fun a b c => ?_)
        · clear key; go_wp2; go_ret; exact hend.out
        · clear key; go_wp2; go_ret; exact hend.out
        · clear key; rw [c] at hcell; go_wp2; go_ret; exact hend.out
      · have h6I : ¬ (6 : Int) < (n : Int) := by omega
        rw [if_neg h6] at hend
        refine key (fun a => ?_) (fun a b => ?_) (fun a b c => ?_)
        · clear key; go_wp2; go_ret; exact hend.out
        · clear key; go_wp2; go_ret; exact hend.out
        · clear key; rw [c] at hcell; go_wp2; go_ret; exact hend.out


theorem setO_same {b : BaseV} {n : Nat} (hn : n < 6) (h : b.obj ⟨n, hn⟩ = obj0) : setO b n obj0 = b := by
  unfold setO
  cases b with
  | mk f g =>
    have h : f ⟨n, hn⟩ = obj0 := h
    have e : (fun j : Fin 6 => if j.val = n then obj0 else f j) = f := by
      funext j
      split
      · rename_i hj
        rw [← h]
        congr 1
        exact Fin.ext hj.symm
      · rfl
    show (⟨fun j => if j.val = n then obj0 else f j, g⟩ : BaseV) = _
    rw [e]
theorem setL_same {b : BaseV} {n : Nat} (hn : n < 3) (h : b.last ⟨n, hn⟩ = last0) : setL b n last0 = b := by
  unfold setL
  cases b with
  | mk f g =>
    have h : g ⟨n, hn⟩ = last0 := h
    have e : (fun j : Fin 3 => if j.val = n then last0 else g j) = g := by
      funext j
      split
      · rename_i hj
        rw [← h]
        congr 1
        exact Fin.ext hj.symm
      · rfl
    show (⟨f, fun j => if j.val = n then last0 else g j⟩ : BaseV) = _
    rw [e]
theorem objs_next (n : Nat) (b : BaseV) (s : RS) : objsZ (n + 1) b s = (setO (objsZ n b s).1 n (obZ (objsZ n b s).2).1, (obZ (objsZ n b s).2).2) := rfl
theorem lasts_next (n : Nat) (b : BaseV) (s : RS) : lastsZ (n + 1) b s = (setL (lastsZ n b s).1 n (lastZ (lastsZ n b s).2).1, (lastZ (lastsZ n b s).2).2) := rfl
theorem atrs_next (n : Nat) (y : ObjV) (s : RS) : atrsZ (n + 1) y s = (setA (atrsZ n y s).1 n (txtZ 16 (atrsZ n y s).2).1, (txtZ 16 (atrsZ n y s).2).2) := rfl
theorem objs_rest : ∀ (n : Nat) (s : RS), (∀ j : Fin 6, n ≤ j.val → (objsZ n base0 s).1.obj j = obj0) ∧ ∀ j, (objsZ n base0 s).1.last j = last0
  | 0, _ => ⟨fun _ _ => rfl, fun _ => rfl⟩
  | n + 1, s => by
    obtain ⟨h1, h2⟩ := objs_rest n s
    rw [objs_next]
    refine ⟨fun j hj => ?_, fun j => h2 j⟩
    show (if j.val = n then _ else _) = _
    rw [if_neg (by omega)]
    exact h1 j (by omega)
theorem lasts_rest (b : BaseV) : ∀ (n : Nat) (s : RS) (j : Fin 3), n ≤ j.val → (lastsZ n b s).1.last j = b.last j
  | 0, _, _, _ => rfl
  | n + 1, s, j, hj => by
    rw [lasts_next]
    show (if j.val = n then _ else _) = _
    rw [if_neg (by omega)]
    exact lasts_rest b n s j (by omega)
section
variable {w : World} {g a n : Nat} {b : BaseV} {t : EntV} {l : List EntV} {ao : Option Addr} {c : Nat}
theorem Has.put_there {y : ObjV} (h : Has w g 44 (stC ⟨a, setO b n y, t, l⟩ ao c)) (hn : n < 6) (v : Bool) : Has (w.setCell ⟨g, 1 + n * 5, none⟩ (.bool v)) g 44 (stC ⟨a, setO b n ⟨v, y.data, y.a0, y.a1, y.a2⟩, t, l⟩ ao c) := by
  match n, hn with
  | 0, _ => exact h.set _ _
  | 1, _ => exact h.set _ _
  | 2, _ => exact h.set _ _
  | 3, _ => exact h.set _ _
  | 4, _ => exact h.set _ _
  | 5, _ => exact h.set _ _
theorem Has.put_data {y : ObjV} (h : Has w g 44 (stC ⟨a, setO b n y, t, l⟩ ao c)) (hn : n < 6) (d : List UInt8) : Has (w.setCell ⟨g, 1 + n * 5 + 1, none⟩ (.string (mkS d))) g 44 (stC ⟨a, setO b n ⟨y.there, d, y.a0, y.a1, y.a2⟩, t, l⟩ ao c) := by
  match n, hn with
  | 0, _ => exact h.set _ _
  | 1, _ => exact h.set _ _
  | 2, _ => exact h.set _ _
  | 3, _ => exact h.set _ _
  | 4, _ => exact h.set _ _
  | 5, _ => exact h.set _ _
theorem Has.put_a0 {y : ObjV} (h : Has w g 44 (stC ⟨a, setO b n y, t, l⟩ ao c)) (hn : n < 6) (d : List UInt8) : Has (w.setCell ⟨g, 1 + n * 5 + 2, none⟩ (.string (mkS d))) g 44 (stC ⟨a, setO b n (setA y 0 d), t, l⟩ ao c) := by
  match n, hn with
  | 0, _ => exact h.set _ _
  | 1, _ => exact h.set _ _
  | 2, _ => exact h.set _ _
  | 3, _ => exact h.set _ _
  | 4, _ => exact h.set _ _
  | 5, _ => exact h.set _ _
theorem Has.put_a1 {y : ObjV} (h : Has w g 44 (stC ⟨a, setO b n y, t, l⟩ ao c)) (hn : n < 6) (d : List UInt8) : Has (w.setCell ⟨g, 1 + n * 5 + 2 + 1, none⟩ (.string (mkS d))) g 44 (stC ⟨a, setO b n (setA y 1 d), t, l⟩ ao c) := by
  match n, hn with
  | 0, _ => exact h.set _ _
  | 1, _ => exact h.set _ _
  | 2, _ => exact h.set _ _
  | 3, _ => exact h.set _ _
  | 4, _ => exact h.set _ _
  | 5, _ => exact h.set _ _
theorem Has.put_a2 {y : ObjV} (h : Has w g 44 (stC ⟨a, setO b n y, t, l⟩ ao c)) (hn : n < 6) (d : List UInt8) : Has (w.setCell ⟨g, 1 + n * 5 + 2 + 2, none⟩ (.string (mkS d))) g 44 (stC ⟨a, setO b n (setA y 2 d), t, l⟩ ao c) := by
  match n, hn with
  | 0, _ => exact h.set _ _
  | 1, _ => exact h.set _ _
  | 2, _ => exact h.set _ _
  | 3, _ => exact h.set _ _
  | 4, _ => exact h.set _ _
  | 5, _ => exact h.set _ _
theorem Has.put_atr {y : ObjV} (h : Has w g 44 (stC ⟨a, setO b n y, t, l⟩ ao c)) (hn : n < 6) (k : Nat) (hk : k < 3) (d : List UInt8) : Has (w.setCell ⟨g, 1 + n * 5 + 2 + k, none⟩ (.string (mkS d))) g 44 (stC ⟨a, setO b n (setA y k d), t, l⟩ ao c) := by
  match k, hk with
  | 0, _ => exact h.put_a0 hn d
  | 1, _ => exact h.put_a1 hn d
  | 2, _ => exact h.put_a2 hn d
theorem Has.put_seq {y : LastV} (h : Has w g 44 (stC ⟨a, setL b n y, t, l⟩ ao c)) (hn : n < 3) (q : Nat) : Has (w.setCell ⟨g, 31 + n * 3, none⟩ (.int .u32 (q : Nat))) g 44 (stC ⟨a, setL b n ⟨q, y.r⟩, t, l⟩ ao c) := by
  match n, hn with
  | 0, _ => exact h.set _ _
  | 1, _ => exact h.set _ _
  | 2, _ => exact h.set _ _
theorem Has.put_code {y : LastV} (h : Has w g 44 (stC ⟨a, setL b n y, t, l⟩ ao c)) (hn : n < 3) (q : Nat) : Has (w.setCell ⟨g, 31 + n * 3 + 1, none⟩ (.int .u8 (q : Nat))) g 44 (stC ⟨a, setL b n ⟨y.seq, ⟨q, y.r.data⟩⟩, t, l⟩ ao c) := by
  match n, hn with
  | 0, _ => exact h.set _ _
  | 1, _ => exact h.set _ _
  | 2, _ => exact h.set _ _
theorem Has.put_log {b1 : BaseV} {go : Option Addr} {gc : Nat} (h : Has w g 44 (stC ⟨a, b1, t, []⟩ none 0)) (m : List EntV) : Has (w.setCell ⟨g, 48, none⟩ (.slice go m.length gc)) g 44 (stC ⟨a, b1, t, m⟩ go gc) := h.set 48 (.slice go m.length gc)
theorem Has.put_since {b1 : BaseV} {o : OpV} {m q : Nat} (h : Has w g 44 (stC ⟨a, b1, ⟨m, q, o⟩, l⟩ ao c)) (k : Nat) : Has (w.setCell ⟨g, 40, none⟩ (.int .u32 (k : Nat))) g 44 (stC ⟨a, b1, ⟨k, q, o⟩, l⟩ ao c) := h.set 40 (.int .u32 (k : Nat))
theorem Has.put_n {b1 : BaseV} {o : OpV} {m q : Nat} (h : Has w g 44 (stC ⟨a, b1, ⟨m, q, o⟩, l⟩ ao c)) (k : Nat) : Has (w.setCell ⟨g, 41, none⟩ (.int .u32 (k : Nat))) g 44 (stC ⟨a, b1, ⟨m, k, o⟩, l⟩ ao c) := h.set 41 (.int .u32 (k : Nat))
end
theorem st_built_c (y : Nat) : Tryz.prog.built 44 [(0, .int .u32 (y : Int))] = some (stC ⟨y, base0, ent0, []⟩ none 0) := by kernel_rfl
theorem st_built1 (n : Nat) : Tryz.prog.built 44 [(0, .int .u32 ((n : Int) % 4294967296))] = some (stC ⟨n % 4294967296, base0, ent0, []⟩ none 0) := by rw [modn4]; exact st_built_c _
def StR (p : Nat) (w : World) (r : StV × RS) (e : Ending) (w' : World) : Prop := ∃ ao c, e = .returned (.agg (stC r.1 ao c)) ∧ Sl w' ao c 8 (entR r.1.log) ∧ (∀ d, ao = some d → w.heap.size ≤ d.block ∧ d.block < w'.heap.size) ∧ RdI p w' r.2 ∧ OffP p w w'
theorem stZ_is {s s1 s2 s3 s4 s5 s6 : RS} {n1 n2 n3 : Nat} {b c : BaseV} {l : List EntV} (e1 : numZ 4 s = (n1, s1)) (e2 : numZ 4 s1 = (n2, s2)) (e3 : numZ 4 s2 = (n3, s3)) (e4 : objsZ 6 base0 s3 = (b, s4)) (e5 : lastsZ 3 b s4 = (c, s5)) (e6 : logZ s5 = (l, s6)) :
    stZ s = (⟨n1 % 4294967296, c, ⟨n2 % 4294967296, n3 % 4294967296, op0⟩, l⟩, s6) := by simp only [stZ, fourZ, Rd.bind, Rd.ret, e1, e2, e3, e4, e5, e6]
theorem obZ_is {s s1 s2 s3 : RS} {m : Nat} {d : List UInt8} {y : ObjV} (hm : m < 256) (e1 : numZ 1 s = (m, s1)) (e2 : txtZ 16 ⟨s1.left, s1.bad || decide (1 < m)⟩ = (d, s2)) (e3 : atrsZ 3 ⟨decide (m = 1), d, [], [], []⟩ s2 = (y, s3)) : obZ s = (y, s3) := by
  have em : m % 256 = m := Nat.mod_eq_of_lt hm
  simp only [obZ, thereZ, oneZ, badZ, Rd.bind, Rd.ret, e1, em, e2, e3]
theorem lastZ_is {s s1 s2 : RS} {m k : Nat} (e1 : numZ 4 s = (m, s1)) (e2 : numZ 1 s1 = (k, s2)) : lastZ s = (⟨m % 4294967296, ⟨k % 256, []⟩⟩, s2) := by simp only [lastZ, fourZ, oneZ, Rd.bind, Rd.ret, e1, e2]
theorem obj_has (b : BaseV) (n : Nat) (y : ObjV) (hn : n < 6) : (setO b n y).obj ⟨n, hn⟩ = y := if_pos rfl
theorem Has.obj_cell {w : World} {g a n : Nat} {b : BaseV} {t : EntV} {l : List EntV} {ao : Option Addr} {c : Nat} {y : ObjV} (h : Has w g 44 (stC ⟨a, setO b n y, t, l⟩ ao c)) (j : Nat) (hn : n < 6) (hj : j < 5) : w.cell? ⟨g, 1 + n * 5 + j, none⟩ = (objL y)[j]? := by
  rw [h.cell]
  match n, hn, j, hj with
  | 0, _, 0, _ => rfl
  | 0, _, 1, _ => rfl
  | 0, _, 2, _ => rfl
  | 0, _, 3, _ => rfl
  | 0, _, 4, _ => rfl
  | 1, _, 0, _ => rfl
  | 1, _, 1, _ => rfl
  | 1, _, 2, _ => rfl
  | 1, _, 3, _ => rfl
  | 1, _, 4, _ => rfl
  | 2, _, 0, _ => rfl
  | 2, _, 1, _ => rfl
  | 2, _, 2, _ => rfl
  | 2, _, 3, _ => rfl
  | 2, _, 4, _ => rfl
  | 3, _, 0, _ => rfl
  | 3, _, 1, _ => rfl
  | 3, _, 2, _ => rfl
  | 3, _, 3, _ => rfl
  | 3, _, 4, _ => rfl
  | 4, _, 0, _ => rfl
  | 4, _, 1, _ => rfl
  | 4, _, 2, _ => rfl
  | 4, _, 3, _ => rfl
  | 4, _, 4, _ => rfl
  | 5, _, 0, _ => rfl
  | 5, _, 1, _ => rfl
  | 5, _, 2, _ => rfl
  | 5, _, 3, _ => rfl
  | 5, _, 4, _ => rfl
theorem Has.obj_atr {w : World} {g a n k : Nat} {b : BaseV} {t : EntV} {l : List EntV} {ao : Option Addr} {c : Nat} {y : ObjV} (h : Has w g 44 (stC ⟨a, setO b n y, t, l⟩ ao c)) (hn : n < 6) (hk : k < 3) : w.cell? ⟨g, 1 + n * 5 + 2 + k, none⟩ = some (.string (mkS (atrV y k))) := by
  have := h.obj_cell (2 + k) hn (by omega)
  rw [← Nat.add_assoc] at this
  rw [this]
  match k, hk with
  | 0, _ => rfl
  | 1, _ => rfl
  | 2, _ => rfl
theorem Has.last_cell {w : World} {g a n : Nat} {b : BaseV} {t : EntV} {l : List EntV} {ao : Option Addr} {c : Nat} {y : LastV} (h : Has w g 44 (stC ⟨a, setL b n y, t, l⟩ ao c)) (j : Nat) (hn : n < 3) (hj : j < 3) : w.cell? ⟨g, 31 + n * 3 + j, none⟩ = (lastL y)[j]? := by
  rw [h.cell]
  match n, hn, j, hj with
  | 0, _, 0, _ => rfl
  | 0, _, 1, _ => rfl
  | 0, _, 2, _ => rfl
  | 1, _, 0, _ => rfl
  | 1, _, 1, _ => rfl
  | 1, _, 2, _ => rfl
  | 2, _, 0, _ => rfl
  | 2, _, 1, _ => rfl
  | 2, _, 2, _ => rfl
set_option maxHeartbeats 8000000 in
theorem rdst_any (p : Nat) (w : World) (s : RS) (h : RdI p w s) : Calls Tryz.prog 64 #[.pointer (some ⟨p, 0, none⟩)] w (StR p w (stZ s)) := by
  have hp := h.lt
  obtain ⟨w1, hw1, hR, hb⟩ := one_var w 44 (stC st0 none 0)
  have h1 := h.later hb
  have o1 : Hid (OffP p w w1) := OffF.of hb
  obtain ⟨n1, s1, e1⟩ : ∃ n s', numZ 4 s = (n, s') := ⟨_, _, rfl⟩
  obtain ⟨n2, s2, e2⟩ : ∃ n s', numZ 4 s1 = (n, s') := ⟨_, _, rfl⟩
  obtain ⟨n3, s3, e3⟩ : ∃ n s', numZ 4 s2 = (n, s') := ⟨_, _, rfl⟩
  have hZ : Hid (∀ b s4 c s5 l s6, objsZ 6 base0 s3 = (b, s4) → lastsZ 3 b s4 = (c, s5) → logZ s5 = (l, s6) → stZ s = (⟨n1 % 4294967296, c, ⟨n2 % 4294967296, n3 % 4294967296, op0⟩, l⟩, s6)) := fun b s4 c s5 l s6 a1 a2 a3 => stZ_is e1 e2 e3 a1 a2 a3
  have hc := rnum_any p 4 w1 s h1 (by decide) (by decide)
  rw [e1] at hc
  replace hc : Hid _ := hc
  clear h h1 hb
  go_enter Tryz.func64, Tryz.ntmps64
  go_wp2_with (first
    | (refine wpList_alloc_has (by rfl) 44 rfl (stC st0 none 0) st_zero ?_; rw [hw1]; clear hw1)
    | fail)
  refine Calls.mono hc.out ?_
  rintro en w2 ⟨he, h2, o2⟩
  replace he : en = .returned (.int .u64 (n1 : Nat)) := he
  subst he
  clear hc
  replace hR := o2.has hR (show ¬ w.heap.size = p by omega)
  have hRl := hR.lt
  obtain ⟨w3, hw3, hX, hq⟩ := new_var w2 44 (stC st0 none 0) (stC ⟨n1 % 4294967296, base0, ent0, []⟩ none 0)
  replace hR := hR.later hq
  replace h2 := h2.later hq
  replace o1 : Hid (OffP p w w3) := (o1.out.trans o2).trans (OffF.of hq)
  clear o2 hq
  have hc := rnum_any p 4 w3 s1 h2 (by decide) (by decide)
  rw [e2] at hc
  replace hc : Hid _ := hc
  have hbt : Hid _ := st_built1 n1
  clear h2
  go_wp2_with (first
    | (refine wpList_build_one (by rfl) 44 0 _ rfl (.int .u32 ((n1 : Int) % 4294967296)) rfl (stC ⟨n1 % 4294967296, base0, ent0, []⟩ none 0) hbt.out ?_)
    | (refine wpList_alloc_has (by rfl) 44 rfl (stC st0 none 0) st_zero ?_)
    | (refine wpList_store_to (by rfl) 44 _ _ rfl w2.heap.size rfl (stC ⟨n1 % 4294967296, base0, ent0, []⟩ none 0) rfl 44 (stC st0 none 0) (st_size _ _ _) rfl (st_one _ _ _) ?hg w3 ?hW ?_; (case hg => exact Has.new _ _ _); (case hW => exact hw3); clear hw3)
    | fail)
  have hgp : w2.heap.size ≠ p := by omega
  have hgR : w.heap.size ≠ w2.heap.size := by omega
  have hRp : w.heap.size ≠ p := by omega
  clear hbt
  obtain ⟨A, hA⟩ : ∃ A, A = n1 % 4294967296 := ⟨_, rfl⟩
  rw [← hA] at hX hZ
  refine Calls.mono hc.out ?_
  rintro en w4 ⟨he, h2, o2⟩
  replace he : en = .returned (.int .u64 (n2 : Nat)) := he
  subst he
  clear hc
  replace hR := o2.has hR hRp
  replace hX := o2.has hX hgp
  replace o1 : Hid (OffP p w w4) := o1.out.trans o2
  have hcell : w4.cell? ⟨w2.heap.size, 40, none⟩ = some (.int .u32 0) := hX.cell 40
  have hfree := hX.free (40)
  obtain ⟨x4, hwx4⟩ : ∃ W, w4.setCell ⟨w2.heap.size, 40, none⟩ (.int .u32 ((n2 : Int) % 4294967296)) = W := ⟨_, rfl⟩
  have hX' : Has x4 w2.heap.size 44 (stC ⟨A, base0, ⟨n2 % 4294967296, 0, op0⟩, []⟩ none 0) := by rw [← hwx4]; exact (modn4 n2).symm ▸ hX.put_since (n2 % 4294967296)
  have hR' : Has x4 w.heap.size 44 (stC st0 none 0) := by rw [← hwx4]; exact hR.set_other hgR _
  have h3 : RdI p x4 s2 := by rw [← hwx4]; exact h2.other (but_cell _ _ _) (by show p < w2.heap.size; omega)
  have o3 : Hid (OffP p w x4) := by rw [← hwx4]; exact o1.out.fresh (but_cell _ _ _) (by show w.heap.size ≤ w2.heap.size; omega)
  clear h2 o2 hX hR o1
  have hc := rnum_any p 4 x4 s2 h3 (by decide) (by decide)
  rw [e3] at hc
  replace hc : Hid _ := hc
  clear h3
  go_wp2_with fail
  clear hwx4 hcell hfree
  have hX := hX'
  have hR := hR'
  have o1 := o3
  clear hX' hR' o3
  refine Calls.mono hc.out ?_
  rintro en w5 ⟨he, h2, o2⟩
  replace he : en = .returned (.int .u64 (n3 : Nat)) := he
  subst he
  clear hc
  replace hR := o2.has hR hRp
  replace hX := o2.has hX hgp
  replace o1 : Hid (OffP p w w5) := o1.out.trans o2
  have hcell : w5.cell? ⟨w2.heap.size, 41, none⟩ = some (.int .u32 0) := hX.cell 41
  have hfree := hX.free (41)
  obtain ⟨x5, hwx5⟩ : ∃ W, w5.setCell ⟨w2.heap.size, 41, none⟩ (.int .u32 ((n3 : Int) % 4294967296)) = W := ⟨_, rfl⟩
  have hX' : Has x5 w2.heap.size 44 (stC ⟨A, base0, ⟨n2 % 4294967296, n3 % 4294967296, op0⟩, []⟩ none 0) := by rw [← hwx5]; exact (modn4 n3).symm ▸ hX.put_n (n3 % 4294967296)
  have hR' : Has x5 w.heap.size 44 (stC st0 none 0) := by rw [← hwx5]; exact hR.set_other hgR _
  have h3 : RdI p x5 s3 := by rw [← hwx5]; exact h2.other (but_cell _ _ _) (by show p < w2.heap.size; omega)
  have o3 : Hid (OffP p w x5) := by rw [← hwx5]; exact o1.out.fresh (but_cell _ _ _) (by show w.heap.size ≤ w2.heap.size; omega)
  clear h2 o2 hX hR o1
  have hX := hX'
  have hR := hR'
  have o1 := o3
  clear hX' hR' o3
  obtain ⟨T, hT⟩ : ∃ T : EntV, T = ⟨n2 % 4294967296, n3 % 4294967296, op0⟩ := ⟨_, rfl⟩
  rw [← hT] at hX hZ
  go_wp2
  clear hwx5 hcell hfree
  go_loopw [4] (fun i wr => ∃ n b s4, n ≤ 6 ∧ i = .int .i64 (n : Nat) ∧ objsZ n base0 s3 = (b, s4) ∧ RdI p wr s4 ∧ OffP p w wr ∧ Has wr w2.heap.size 44 (stC ⟨A, b, T, []⟩ none 0) ∧ Has wr w.heap.size 44 (stC st0 none 0)) (fun i _ => 6 - (intOf i).toNat)
  case atStart => exact ⟨0, base0, s3, by decide, rfl, rfl, h3, o1.out, hX, hR⟩
  case round =>
    clear h3 o1 hX hR
    obtain ⟨n, b, s4, hn, rfl, hO, h2, o1, hX, hR⟩ := hrel
    by_cases hlt : n < 6
    · have hltI : (n : Int) < 6 := by omega
      have hb0 : setO b n obj0 = b := setO_same hlt (by have := (objs_rest n s3).1 ⟨n, hlt⟩ (Nat.le_refl _); rw [hO] at this; exact this)
      rw [← hb0] at hX
      have hstep : Hid (∀ y s7, obZ s4 = (y, s7) → objsZ (n + 1) base0 s3 = (setO b n y, s7)) := fun y s7 e => by rw [objs_next, hO, e]
      have hm := num1_lt s4
      obtain ⟨m, s5, e5⟩ : ∃ n s', numZ 1 s4 = (n, s') := ⟨_, _, rfl⟩
      have hc := rnum_any p 1 wr s4 h2 (by decide) (by decide)
      rw [e5] at hc hm
      replace hm : m < 256 := hm
      replace hc : Hid _ := hc
      replace o1 : Hid _ := o1
      clear h2 hb0 hO
      go_wp2_with fail
      refine Calls.mono hc.out ?_
      rintro en w6 ⟨he, h2, o2⟩
      replace he : en = .returned (.int .u64 (m : Nat)) := he
      subst he
      clear hc
      replace hR := o2.has hR hRp
      replace hX := o2.has hX hgp
      replace o1 : Hid (OffP p w w6) := o1.out.trans o2
      clear o2
      obtain ⟨hbad, hbfr⟩ := h2.bad
      by_cases m0 : m = 0
      · subst m0
        have hobz : Hid (∀ d s7 y s8, txtZ 16 s5 = (d, s7) → atrsZ 3 ⟨false, d, [], [], []⟩ s7 = (y, s8) → obZ s4 = (y, s8)) := fun d s7 y s8 a1 a2 => obZ_is (by decide) e5 (by show txtZ 16 ⟨s5.left, s5.bad || false⟩ = _; rw [Bool.or_false]; exact a1) a2
        obtain ⟨s6, hs6⟩ : ∃ q, q = s5 := ⟨_, rfl⟩
        rw [← hs6] at h2 hobz
        have hcell : w6.cell? ⟨w2.heap.size, 1 + n * 5, none⟩ = some (.bool false) := hX.obj_cell 0 hlt (by decide)
        have hfree := hX.free (1 + n * 5)
        obtain ⟨x6, hwx6⟩ : ∃ W, w6.setCell ⟨w2.heap.size, 1 + n * 5, none⟩ (.bool false) = W := ⟨_, rfl⟩
        have hX' : Has x6 w2.heap.size 44 (stC ⟨A, setO b n ⟨false, [], [], [], []⟩, T, []⟩ none 0) := by rw [← hwx6]; exact hX.put_there hlt false
        have hR' : Has x6 w.heap.size 44 (stC st0 none 0) := by rw [← hwx6]; exact hR.set_other hgR _
        have h3 : RdI p x6 s6 := by rw [← hwx6]; exact h2.other (but_cell _ _ _) (by show p < w2.heap.size; omega)
        have o3 : Hid (OffP p w x6) := by rw [← hwx6]; exact o1.out.fresh (but_cell _ _ _) (by show w.heap.size ≤ w2.heap.size; omega)
        clear h2 hX hR o1
        obtain ⟨d, s7, e7⟩ : ∃ n s', txtZ 16 s6 = (n, s') := ⟨_, _, rfl⟩
        have hc := rtxt_any p 16 x6 s6 h3 (by decide)
        rw [e7] at hc
        replace hc : Hid _ := hc
        have hob : Hid (∀ y s8, atrsZ 3 ⟨false, d, [], [], []⟩ s7 = (y, s8) → objsZ (n + 1) base0 s3 = (setO b n y, s8)) := fun y s8 e => hstep.out y s8 (hobz.out d s7 y s8 e7 e)
        clear h3 hstep hobz
        go_wp2_with fail
        clear hwx6 hcell hfree
        have hX := hX'
        have hR := hR'
        have o1 := o3
        clear hX' hR' o3
        refine Calls.mono hc.out ?_
        rintro en w7 ⟨he, h2, o2⟩
        replace he : en = .returned (.string (mkS d)) := he
        subst he
        clear hc
        replace hR := o2.has hR hRp
        replace hX := o2.has hX hgp
        replace o1 : Hid (OffP p w w7) := o1.out.trans o2
        clear o2
        have hcell : w7.cell? ⟨w2.heap.size, 1 + n * 5 + 1, none⟩ = some (.string (mkS [])) := hX.obj_cell 1 hlt (by decide)
        have hfree := hX.free (1 + n * 5 + 1)
        obtain ⟨x7, hwx7⟩ : ∃ W, w7.setCell ⟨w2.heap.size, 1 + n * 5 + 1, none⟩ (.string (mkS d)) = W := ⟨_, rfl⟩
        have hX' : Has x7 w2.heap.size 44 (stC ⟨A, setO b n ⟨false, d, [], [], []⟩, T, []⟩ none 0) := by rw [← hwx7]; exact hX.put_data hlt d
        have hR' : Has x7 w.heap.size 44 (stC st0 none 0) := by rw [← hwx7]; exact hR.set_other hgR _
        have h3 : RdI p x7 s7 := by rw [← hwx7]; exact h2.other (but_cell _ _ _) (by show p < w2.heap.size; omega)
        have o3 : Hid (OffP p w x7) := by rw [← hwx7]; exact o1.out.fresh (but_cell _ _ _) (by show w.heap.size ≤ w2.heap.size; omega)
        clear h2 hX hR o1
        have hX := hX'
        have hR := hR'
        have o1 := o3
        clear hX' hR' o3
        go_wp2
        clear hwx7 hcell hfree
        obtain ⟨W2, hW2⟩ : ∃ W2, W2 = wr := ⟨_, rfl⟩
        go_loopw [6] (fun i wq => ∃ k y s8, k ≤ 3 ∧ i = .int .i64 (k : Nat) ∧ atrsZ k ⟨false, d, [], [], []⟩ s7 = (y, s8) ∧ RdI p wq s8 ∧ OffP p w wq ∧ Has wq w2.heap.size 44 (stC ⟨A, setO b n y, T, []⟩ none 0) ∧ Has wq w.heap.size 44 (stC st0 none 0)) (fun i _ => 3 - (intOf i).toNat)
        case atStart => exact ⟨0, _, s7, by decide, rfl, rfl, h3, o1.out, hX, hR⟩
        case round =>
          clear h3 o1 hX hR
          obtain ⟨k, y, s8, hk, rfl, hY, h2, o1, hX, hR⟩ := hrel
          by_cases hkl : k < 3
          · have hkI : (k : Int) < 3 := by omega
            obtain ⟨d9, s9, e9⟩ : ∃ n s', txtZ 16 s8 = (n, s') := ⟨_, _, rfl⟩
            have hc := rtxt_any p 16 wr.drew s8 (h2.later (Below.refl _ _).drew) (by decide)
            rw [e9] at hc
            replace hc : Hid _ := hc
            have hnx : Hid (atrsZ (k + 1) ⟨false, d, [], [], []⟩ s7 = (setA y k d9, s9)) := by show _ = _; rw [atrs_next, hY, e9]
            replace o1 : Hid (OffP p w wr.drew) := o1.trans (OffF.of (Below.refl _ _).drew)
            clear h2 hY
            replace hX := hX.drew
            replace hR := hR.drew
            go_wp2_with fail
            refine wp_region_plan (fun W => True) (Plan.of [(0, true), (1, true), (2, true), (4, true), (5, true), (6, true), (7, true), (3, false), (8, true), (9, false)] .done) (by kernel_rfl) (by kernel_rfl) (by kernel_rfl) (by kernel_rfl) trivial ?_
            generalize wr.drew = w8 at *
            iterate 7
              first
                | (refine plan_pass _ rfl (by rfl) ?_)
                | (refine plan_take _ _ rfl (.inl ⟨by rfl, fun W hS => by clear hS; go_simp; try with_reducible rfl⟩) ?_)
              try simp only [Act.put, List.setIfInBounds_toArray, List.set_cons_zero, List.set_cons_succ]
            refine plan_run _ rfl (fun K hK => ?_)
            go_simp
            refine Calls.mono hc.out ?_
            rintro en w9 ⟨he, h2, o2⟩
            replace he : en = .returned (.string (mkS d9)) := he
            subst he
            refine hK.out _ _ trivial ?_
            clear hK K hc
            try simp only [Act.put, List.setIfInBounds_toArray, List.set_cons_zero, List.set_cons_succ]
            iterate 1
              first
                | (refine plan_pass _ rfl (by rfl) ?_)
                | (refine plan_take _ _ rfl (.inl ⟨by rfl, fun W hS => by clear hS; go_simp; try with_reducible rfl⟩) ?_)
              try simp only [Act.put, List.setIfInBounds_toArray, List.set_cons_zero, List.set_cons_succ]
            replace hR := o2.has hR hRp
            replace hX := o2.has hX hgp
            replace o1 : Hid (OffP p w w9) := o1.out.trans o2
            clear o2
            have hcell : w9.cell? ⟨w2.heap.size, 1 + n * 5 + 2 + k, none⟩ = some (.string (mkS (atrV y k))) := hX.obj_atr hlt hkl
            have hfree := hX.free (1 + n * 5 + 2 + k)
            obtain ⟨x9, hwx9⟩ : ∃ W, w9.setCell ⟨w2.heap.size, 1 + n * 5 + 2 + k, none⟩ (.string (mkS d9)) = W := ⟨_, rfl⟩
            have hX' : Has x9 w2.heap.size 44 (stC ⟨A, setO b n (setA y k d9), T, []⟩ none 0) := by rw [← hwx9]; exact hX.put_atr hlt k hkl d9
            have hR' : Has x9 w.heap.size 44 (stC st0 none 0) := by rw [← hwx9]; exact hR.set_other hgR _
            have h3 : RdI p x9 s9 := by rw [← hwx9]; exact h2.other (but_cell _ _ _) (by show p < w2.heap.size; omega)
            have o3 : Hid (OffP p w x9) := by rw [← hwx9]; exact o1.out.fresh (but_cell _ _ _) (by show w.heap.size ≤ w2.heap.size; omega)
            clear h2 hX hR o1
            refine plan_run _ rfl (fun K hK => ?_)
            go_simp
            refine hK.out _ _ trivial ?_
            clear hK K
            try simp only [Act.put, List.setIfInBounds_toArray, List.set_cons_zero, List.set_cons_succ]
            refine plan_done ?_
            clear hwx9 hcell hfree
            go_wp2
            go_roundw
            case rel => exact ⟨k + 1, _, s9, by omega, by go_num, hnx.out, h3, o3.out, hX', hR'⟩
            case measure => simp [intOf]; omega
          · have e3 : k = 3 := by omega
            subst e3
            have hdone : Hid _ := hob.out y s8 hY
            replace o1 : Hid _ := o1
            clear hob hY
            go_wp2
            go_roundw
            case rel => exact ⟨n + 1, _, s8, by omega, by go_num, hdone.out, h2, o1.out, hX, hR⟩
            case measure => simp [intOf]; omega
      · by_cases m1 : m = 1
        · subst m1
          have hobz : Hid (∀ d s7 y s8, txtZ 16 s5 = (d, s7) → atrsZ 3 ⟨true, d, [], [], []⟩ s7 = (y, s8) → obZ s4 = (y, s8)) := fun d s7 y s8 a1 a2 => obZ_is (by decide) e5 (by show txtZ 16 ⟨s5.left, s5.bad || false⟩ = _; rw [Bool.or_false]; exact a1) a2
          obtain ⟨s6, hs6⟩ : ∃ q, q = s5 := ⟨_, rfl⟩
          rw [← hs6] at h2 hobz
          have hcell : w6.cell? ⟨w2.heap.size, 1 + n * 5, none⟩ = some (.bool false) := hX.obj_cell 0 hlt (by decide)
          have hfree := hX.free (1 + n * 5)
          obtain ⟨x6, hwx6⟩ : ∃ W, w6.setCell ⟨w2.heap.size, 1 + n * 5, none⟩ (.bool true) = W := ⟨_, rfl⟩
          have hX' : Has x6 w2.heap.size 44 (stC ⟨A, setO b n ⟨true, [], [], [], []⟩, T, []⟩ none 0) := by rw [← hwx6]; exact hX.put_there hlt true
          have hR' : Has x6 w.heap.size 44 (stC st0 none 0) := by rw [← hwx6]; exact hR.set_other hgR _
          have h3 : RdI p x6 s6 := by rw [← hwx6]; exact h2.other (but_cell _ _ _) (by show p < w2.heap.size; omega)
          have o3 : Hid (OffP p w x6) := by rw [← hwx6]; exact o1.out.fresh (but_cell _ _ _) (by show w.heap.size ≤ w2.heap.size; omega)
          clear h2 hX hR o1
          obtain ⟨d, s7, e7⟩ : ∃ n s', txtZ 16 s6 = (n, s') := ⟨_, _, rfl⟩
          have hc := rtxt_any p 16 x6 s6 h3 (by decide)
          rw [e7] at hc
          replace hc : Hid _ := hc
          have hob : Hid (∀ y s8, atrsZ 3 ⟨true, d, [], [], []⟩ s7 = (y, s8) → objsZ (n + 1) base0 s3 = (setO b n y, s8)) := fun y s8 e => hstep.out y s8 (hobz.out d s7 y s8 e7 e)
          clear h3 hstep hobz
          go_wp2_with fail
          clear hwx6 hcell hfree
          have hX := hX'
          have hR := hR'
          have o1 := o3
          clear hX' hR' o3
          refine Calls.mono hc.out ?_
          rintro en w7 ⟨he, h2, o2⟩
          replace he : en = .returned (.string (mkS d)) := he
          subst he
          clear hc
          replace hR := o2.has hR hRp
          replace hX := o2.has hX hgp
          replace o1 : Hid (OffP p w w7) := o1.out.trans o2
          clear o2
          have hcell : w7.cell? ⟨w2.heap.size, 1 + n * 5 + 1, none⟩ = some (.string (mkS [])) := hX.obj_cell 1 hlt (by decide)
          have hfree := hX.free (1 + n * 5 + 1)
          obtain ⟨x7, hwx7⟩ : ∃ W, w7.setCell ⟨w2.heap.size, 1 + n * 5 + 1, none⟩ (.string (mkS d)) = W := ⟨_, rfl⟩
          have hX' : Has x7 w2.heap.size 44 (stC ⟨A, setO b n ⟨true, d, [], [], []⟩, T, []⟩ none 0) := by rw [← hwx7]; exact hX.put_data hlt d
          have hR' : Has x7 w.heap.size 44 (stC st0 none 0) := by rw [← hwx7]; exact hR.set_other hgR _
          have h3 : RdI p x7 s7 := by rw [← hwx7]; exact h2.other (but_cell _ _ _) (by show p < w2.heap.size; omega)
          have o3 : Hid (OffP p w x7) := by rw [← hwx7]; exact o1.out.fresh (but_cell _ _ _) (by show w.heap.size ≤ w2.heap.size; omega)
          clear h2 hX hR o1
          have hX := hX'
          have hR := hR'
          have o1 := o3
          clear hX' hR' o3
          go_wp2
          clear hwx7 hcell hfree
          obtain ⟨W2, hW2⟩ : ∃ W2, W2 = wr := ⟨_, rfl⟩
          go_loopw [6] (fun i wq => ∃ k y s8, k ≤ 3 ∧ i = .int .i64 (k : Nat) ∧ atrsZ k ⟨true, d, [], [], []⟩ s7 = (y, s8) ∧ RdI p wq s8 ∧ OffP p w wq ∧ Has wq w2.heap.size 44 (stC ⟨A, setO b n y, T, []⟩ none 0) ∧ Has wq w.heap.size 44 (stC st0 none 0)) (fun i _ => 3 - (intOf i).toNat)
          case atStart => exact ⟨0, _, s7, by decide, rfl, rfl, h3, o1.out, hX, hR⟩
          case round =>
            clear h3 o1 hX hR
            obtain ⟨k, y, s8, hk, rfl, hY, h2, o1, hX, hR⟩ := hrel
            by_cases hkl : k < 3
            · have hkI : (k : Int) < 3 := by omega
              obtain ⟨d9, s9, e9⟩ : ∃ n s', txtZ 16 s8 = (n, s') := ⟨_, _, rfl⟩
              have hc := rtxt_any p 16 wr.drew s8 (h2.later (Below.refl _ _).drew) (by decide)
              rw [e9] at hc
              replace hc : Hid _ := hc
              have hnx : Hid (atrsZ (k + 1) ⟨true, d, [], [], []⟩ s7 = (setA y k d9, s9)) := by show _ = _; rw [atrs_next, hY, e9]
              replace o1 : Hid (OffP p w wr.drew) := o1.trans (OffF.of (Below.refl _ _).drew)
              clear h2 hY
              replace hX := hX.drew
              replace hR := hR.drew
              go_wp2_with fail
              refine wp_region_plan (fun W => True) (Plan.of [(0, true), (1, true), (2, true), (4, true), (5, true), (6, true), (7, true), (3, false), (8, true), (9, false)] .done) (by kernel_rfl) (by kernel_rfl) (by kernel_rfl) (by kernel_rfl) trivial ?_
              generalize wr.drew = w8 at *
              iterate 7
                first
                  | (refine plan_pass _ rfl (by rfl) ?_)
                  | (refine plan_take _ _ rfl (.inl ⟨by rfl, fun W hS => by clear hS; go_simp; try with_reducible rfl⟩) ?_)
                try simp only [Act.put, List.setIfInBounds_toArray, List.set_cons_zero, List.set_cons_succ]
              refine plan_run _ rfl (fun K hK => ?_)
              go_simp
              refine Calls.mono hc.out ?_
              rintro en w9 ⟨he, h2, o2⟩
              replace he : en = .returned (.string (mkS d9)) := he
              subst he
              refine hK.out _ _ trivial ?_
              clear hK K hc
              try simp only [Act.put, List.setIfInBounds_toArray, List.set_cons_zero, List.set_cons_succ]
              iterate 1
                first
                  | (refine plan_pass _ rfl (by rfl) ?_)
                  | (refine plan_take _ _ rfl (.inl ⟨by rfl, fun W hS => by clear hS; go_simp; try with_reducible rfl⟩) ?_)
                try simp only [Act.put, List.setIfInBounds_toArray, List.set_cons_zero, List.set_cons_succ]
              replace hR := o2.has hR hRp
              replace hX := o2.has hX hgp
              replace o1 : Hid (OffP p w w9) := o1.out.trans o2
              clear o2
              have hcell : w9.cell? ⟨w2.heap.size, 1 + n * 5 + 2 + k, none⟩ = some (.string (mkS (atrV y k))) := hX.obj_atr hlt hkl
              have hfree := hX.free (1 + n * 5 + 2 + k)
              obtain ⟨x9, hwx9⟩ : ∃ W, w9.setCell ⟨w2.heap.size, 1 + n * 5 + 2 + k, none⟩ (.string (mkS d9)) = W := ⟨_, rfl⟩
              have hX' : Has x9 w2.heap.size 44 (stC ⟨A, setO b n (setA y k d9), T, []⟩ none 0) := by rw [← hwx9]; exact hX.put_atr hlt k hkl d9
              have hR' : Has x9 w.heap.size 44 (stC st0 none 0) := by rw [← hwx9]; exact hR.set_other hgR _
              have h3 : RdI p x9 s9 := by rw [← hwx9]; exact h2.other (but_cell _ _ _) (by show p < w2.heap.size; omega)
              have o3 : Hid (OffP p w x9) := by rw [← hwx9]; exact o1.out.fresh (but_cell _ _ _) (by show w.heap.size ≤ w2.heap.size; omega)
              clear h2 hX hR o1
              refine plan_run _ rfl (fun K hK => ?_)
              go_simp
              refine hK.out _ _ trivial ?_
              clear hK K
              try simp only [Act.put, List.setIfInBounds_toArray, List.set_cons_zero, List.set_cons_succ]
              refine plan_done ?_
              clear hwx9 hcell hfree
              go_wp2
              go_roundw
              case rel => exact ⟨k + 1, _, s9, by omega, by go_num, hnx.out, h3, o3.out, hX', hR'⟩
              case measure => simp [intOf]; omega
            · have e3 : k = 3 := by omega
              subst e3
              have hdone : Hid _ := hob.out y s8 hY
              replace o1 : Hid _ := o1
              clear hob hY
              go_wp2
              go_roundw
              case rel => exact ⟨n + 1, _, s8, by omega, by go_num, hdone.out, h2, o1.out, hX, hR⟩
              case measure => simp [intOf]; omega
        · have m2I : (1 : Int) < (m : Int) := by omega
          have m1I : ¬ (m : Int) = 1 := by omega
          have m1B : ((m : Int) == 1) = false := by rw [beq_eq_false_iff_ne]; exact m1I
          have hobz : Hid (∀ d s7 y s8, txtZ 16 ⟨s5.left, true⟩ = (d, s7) → atrsZ 3 ⟨false, d, [], [], []⟩ s7 = (y, s8) → obZ s4 = (y, s8)) := fun d s7 y s8 a1 a2 => obZ_is (d := d) (s2 := s7) hm e5 (by rw [decide_eq_true (show 1 < m by omega), Bool.or_true]; exact a1) (by rw [decide_eq_false m1]; exact a2)
          obtain ⟨h9, o9⟩ := rd_bad h2
          obtain ⟨W6, hW6⟩ : ∃ W, w6.setCell ⟨p, 1, none⟩ (.bool true) = W := ⟨_, rfl⟩
          rw [hW6] at h9 o9
          replace hX := o9.has hX hgp
          replace hR := o9.has hR hRp
          replace o1 : Hid (OffP p w W6) := o1.out.trans o9
          replace h2 := h9
          clear h9 o9
          obtain ⟨s6, hs6⟩ : ∃ q : RS, q = ⟨s5.left, true⟩ := ⟨_, rfl⟩
          rw [← hs6] at h2 hobz
          have hcell : W6.cell? ⟨w2.heap.size, 1 + n * 5, none⟩ = some (.bool false) := hX.obj_cell 0 hlt (by decide)
          have hfree := hX.free (1 + n * 5)
          obtain ⟨x6, hwx6⟩ : ∃ W, W6.setCell ⟨w2.heap.size, 1 + n * 5, none⟩ (.bool false) = W := ⟨_, rfl⟩
          have hX' : Has x6 w2.heap.size 44 (stC ⟨A, setO b n ⟨false, [], [], [], []⟩, T, []⟩ none 0) := by rw [← hwx6]; exact hX.put_there hlt false
          have hR' : Has x6 w.heap.size 44 (stC st0 none 0) := by rw [← hwx6]; exact hR.set_other hgR _
          have h3 : RdI p x6 s6 := by rw [← hwx6]; exact h2.other (but_cell _ _ _) (by show p < w2.heap.size; omega)
          have o3 : Hid (OffP p w x6) := by rw [← hwx6]; exact o1.out.fresh (but_cell _ _ _) (by show w.heap.size ≤ w2.heap.size; omega)
          clear h2 hX hR o1
          obtain ⟨d, s7, e7⟩ : ∃ n s', txtZ 16 s6 = (n, s') := ⟨_, _, rfl⟩
          have hc := rtxt_any p 16 x6 s6 h3 (by decide)
          rw [e7] at hc
          replace hc : Hid _ := hc
          have hob : Hid (∀ y s8, atrsZ 3 ⟨false, d, [], [], []⟩ s7 = (y, s8) → objsZ (n + 1) base0 s3 = (setO b n y, s8)) := fun y s8 e => hstep.out y s8 (hobz.out d s7 y s8 e7 e)
          clear h3 hstep hobz
          go_wp2_with fail
          clear hwx6 hcell hfree
          have hX := hX'
          have hR := hR'
          have o1 := o3
          clear hX' hR' o3
          refine Calls.mono hc.out ?_
          rintro en w7 ⟨he, h2, o2⟩
          replace he : en = .returned (.string (mkS d)) := he
          subst he
          clear hc
          replace hR := o2.has hR hRp
          replace hX := o2.has hX hgp
          replace o1 : Hid (OffP p w w7) := o1.out.trans o2
          clear o2
          have hcell : w7.cell? ⟨w2.heap.size, 1 + n * 5 + 1, none⟩ = some (.string (mkS [])) := hX.obj_cell 1 hlt (by decide)
          have hfree := hX.free (1 + n * 5 + 1)
          obtain ⟨x7, hwx7⟩ : ∃ W, w7.setCell ⟨w2.heap.size, 1 + n * 5 + 1, none⟩ (.string (mkS d)) = W := ⟨_, rfl⟩
          have hX' : Has x7 w2.heap.size 44 (stC ⟨A, setO b n ⟨false, d, [], [], []⟩, T, []⟩ none 0) := by rw [← hwx7]; exact hX.put_data hlt d
          have hR' : Has x7 w.heap.size 44 (stC st0 none 0) := by rw [← hwx7]; exact hR.set_other hgR _
          have h3 : RdI p x7 s7 := by rw [← hwx7]; exact h2.other (but_cell _ _ _) (by show p < w2.heap.size; omega)
          have o3 : Hid (OffP p w x7) := by rw [← hwx7]; exact o1.out.fresh (but_cell _ _ _) (by show w.heap.size ≤ w2.heap.size; omega)
          clear h2 hX hR o1
          have hX := hX'
          have hR := hR'
          have o1 := o3
          clear hX' hR' o3
          go_wp2
          clear hwx7 hcell hfree
          obtain ⟨W2, hW2⟩ : ∃ W2, W2 = wr := ⟨_, rfl⟩
          go_loopw [6] (fun i wq => ∃ k y s8, k ≤ 3 ∧ i = .int .i64 (k : Nat) ∧ atrsZ k ⟨false, d, [], [], []⟩ s7 = (y, s8) ∧ RdI p wq s8 ∧ OffP p w wq ∧ Has wq w2.heap.size 44 (stC ⟨A, setO b n y, T, []⟩ none 0) ∧ Has wq w.heap.size 44 (stC st0 none 0)) (fun i _ => 3 - (intOf i).toNat)
          case atStart => exact ⟨0, _, s7, by decide, rfl, rfl, h3, o1.out, hX, hR⟩
          case round =>
            clear h3 o1 hX hR
            obtain ⟨k, y, s8, hk, rfl, hY, h2, o1, hX, hR⟩ := hrel
            by_cases hkl : k < 3
            · have hkI : (k : Int) < 3 := by omega
              obtain ⟨d9, s9, e9⟩ : ∃ n s', txtZ 16 s8 = (n, s') := ⟨_, _, rfl⟩
              have hc := rtxt_any p 16 wr.drew s8 (h2.later (Below.refl _ _).drew) (by decide)
              rw [e9] at hc
              replace hc : Hid _ := hc
              have hnx : Hid (atrsZ (k + 1) ⟨false, d, [], [], []⟩ s7 = (setA y k d9, s9)) := by show _ = _; rw [atrs_next, hY, e9]
              replace o1 : Hid (OffP p w wr.drew) := o1.trans (OffF.of (Below.refl _ _).drew)
              clear h2 hY
              replace hX := hX.drew
              replace hR := hR.drew
              go_wp2_with fail
              refine wp_region_plan (fun W => True) (Plan.of [(0, true), (1, true), (2, true), (4, true), (5, true), (6, true), (7, true), (3, false), (8, true), (9, false)] .done) (by kernel_rfl) (by kernel_rfl) (by kernel_rfl) (by kernel_rfl) trivial ?_
              generalize wr.drew = w8 at *
              iterate 7
                first
                  | (refine plan_pass _ rfl (by rfl) ?_)
                  | (refine plan_take _ _ rfl (.inl ⟨by rfl, fun W hS => by clear hS; go_simp; try with_reducible rfl⟩) ?_)
                try simp only [Act.put, List.setIfInBounds_toArray, List.set_cons_zero, List.set_cons_succ]
              refine plan_run _ rfl (fun K hK => ?_)
              go_simp
              refine Calls.mono hc.out ?_
              rintro en w9 ⟨he, h2, o2⟩
              replace he : en = .returned (.string (mkS d9)) := he
              subst he
              refine hK.out _ _ trivial ?_
              clear hK K hc
              try simp only [Act.put, List.setIfInBounds_toArray, List.set_cons_zero, List.set_cons_succ]
              iterate 1
                first
                  | (refine plan_pass _ rfl (by rfl) ?_)
                  | (refine plan_take _ _ rfl (.inl ⟨by rfl, fun W hS => by clear hS; go_simp; try with_reducible rfl⟩) ?_)
                try simp only [Act.put, List.setIfInBounds_toArray, List.set_cons_zero, List.set_cons_succ]
              replace hR := o2.has hR hRp
              replace hX := o2.has hX hgp
              replace o1 : Hid (OffP p w w9) := o1.out.trans o2
              clear o2
              have hcell : w9.cell? ⟨w2.heap.size, 1 + n * 5 + 2 + k, none⟩ = some (.string (mkS (atrV y k))) := hX.obj_atr hlt hkl
              have hfree := hX.free (1 + n * 5 + 2 + k)
              obtain ⟨x9, hwx9⟩ : ∃ W, w9.setCell ⟨w2.heap.size, 1 + n * 5 + 2 + k, none⟩ (.string (mkS d9)) = W := ⟨_, rfl⟩
              have hX' : Has x9 w2.heap.size 44 (stC ⟨A, setO b n (setA y k d9), T, []⟩ none 0) := by rw [← hwx9]; exact hX.put_atr hlt k hkl d9
              have hR' : Has x9 w.heap.size 44 (stC st0 none 0) := by rw [← hwx9]; exact hR.set_other hgR _
              have h3 : RdI p x9 s9 := by rw [← hwx9]; exact h2.other (but_cell _ _ _) (by show p < w2.heap.size; omega)
              have o3 : Hid (OffP p w x9) := by rw [← hwx9]; exact o1.out.fresh (but_cell _ _ _) (by show w.heap.size ≤ w2.heap.size; omega)
              clear h2 hX hR o1
              refine plan_run _ rfl (fun K hK => ?_)
              go_simp
              refine hK.out _ _ trivial ?_
              clear hK K
              try simp only [Act.put, List.setIfInBounds_toArray, List.set_cons_zero, List.set_cons_succ]
              refine plan_done ?_
              clear hwx9 hcell hfree
              go_wp2
              go_roundw
              case rel => exact ⟨k + 1, _, s9, by omega, by go_num, hnx.out, h3, o3.out, hX', hR'⟩
              case measure => simp [intOf]; omega
            · have e3 : k = 3 := by omega
              subst e3
              have hdone : Hid _ := hob.out y s8 hY
              replace o1 : Hid _ := o1
              clear hob hY
              go_wp2
              go_roundw
              case rel => exact ⟨n + 1, _, s8, by omega, by go_num, hdone.out, h2, o1.out, hX, hR⟩
              case measure => simp [intOf]; omega
    · have hgeI : ¬ (n : Int) < 6 := by omega
      have hgeD : decide ((n : Int) < 6) = false := decide_eq_false hgeI
      have e6 : n = 6 := by omega
      have hO6 : Hid (objsZ 6 base0 s3 = (b, s4)) := by rw [e6] at hO; exact hO
      have hl0 : Hid (∀ j, b.last j = last0) := fun j => by have := (objs_rest n s3).2 j; rw [hO] at this; exact this
      clear e6 hn hO
      obtain ⟨n5, hn5⟩ : ∃ k, k = n := ⟨_, rfl⟩
      rw [← hn5] at hgeI hgeD ⊢
      clear hlt hn5
      replace o1 : Hid _ := o1
      obtain ⟨W2, hW2⟩ : ∃ W2, W2 = wr := ⟨_, rfl⟩
      go_wp2
      go_loopw [7] (fun i wq => ∃ n c s5, n ≤ 3 ∧ i = .int .i64 (n : Nat) ∧ lastsZ n b s4 = (c, s5) ∧ RdI p wq s5 ∧ OffP p w wq ∧ Has wq w2.heap.size 44 (stC ⟨A, c, T, []⟩ none 0) ∧ Has wq w.heap.size 44 (stC st0 none 0)) (fun i _ => 3 - (intOf i).toNat)
      case atStart => exact ⟨0, b, s4, by decide, rfl, rfl, h2, o1.out, hX, hR⟩
      case round =>
        clear h2 o1 hX hR
        obtain ⟨n, c, s5, hn, rfl, hO, h2, o1, hX, hR⟩ := hrel
        by_cases hlt : n < 3
        · have hltI : (n : Int) < 3 := by omega
          have hb0 : setL c n last0 = c := setL_same hlt (by have := lasts_rest b n s4 ⟨n, hlt⟩ (Nat.le_refl _); rw [hO, hl0.out] at this; exact this)
          rw [← hb0] at hX
          obtain ⟨m, s6, e6⟩ : ∃ n s', numZ 4 s5 = (n, s') := ⟨_, _, rfl⟩
          obtain ⟨q, s7, e7⟩ : ∃ n s', numZ 1 s6 = (n, s') := ⟨_, _, rfl⟩
          have hstep : Hid (lastsZ (n + 1) b s4 = (setL c n ⟨m % 4294967296, ⟨q % 256, []⟩⟩, s7)) := by show _ = _; rw [lasts_next, hO, lastZ_is e6 e7]
          have hc := rnum_any p 4 wr s5 h2 (by decide) (by decide)
          rw [e6] at hc
          replace hc : Hid _ := hc
          replace o1 : Hid _ := o1
          clear h2 hb0 hO
          go_wp2_with fail
          refine Calls.mono hc.out ?_
          rintro en w6 ⟨he, h2, o2⟩
          replace he : en = .returned (.int .u64 (m : Nat)) := he
          subst he
          clear hc
          replace hR := o2.has hR hRp
          replace hX := o2.has hX hgp
          replace o1 : Hid (OffP p w w6) := o1.out.trans o2
          clear o2
          have hcell : w6.cell? ⟨w2.heap.size, 31 + n * 3, none⟩ = some (.int .u32 0) := hX.last_cell 0 hlt (by decide)
          have hfree := hX.free (31 + n * 3)
          obtain ⟨x6, hwx6⟩ : ∃ W, w6.setCell ⟨w2.heap.size, 31 + n * 3, none⟩ (.int .u32 ((m : Int) % 4294967296)) = W := ⟨_, rfl⟩
          have hX' : Has x6 w2.heap.size 44 (stC ⟨A, setL c n ⟨m % 4294967296, res0⟩, T, []⟩ none 0) := by rw [← hwx6]; exact (modn4 m).symm ▸ hX.put_seq hlt (m % 4294967296)
          have hR' : Has x6 w.heap.size 44 (stC st0 none 0) := by rw [← hwx6]; exact hR.set_other hgR _
          have h3 : RdI p x6 s6 := by rw [← hwx6]; exact h2.other (but_cell _ _ _) (by show p < w2.heap.size; omega)
          have o3 : Hid (OffP p w x6) := by rw [← hwx6]; exact o1.out.fresh (but_cell _ _ _) (by show w.heap.size ≤ w2.heap.size; omega)
          clear h2 hX hR o1
          have hc := rnum_any p 1 x6 s6 h3 (by decide) (by decide)
          rw [e7] at hc
          replace hc : Hid _ := hc
          clear h3
          go_wp2_with fail
          clear hwx6 hcell hfree
          have hX := hX'
          have hR := hR'
          have o1 := o3
          clear hX' hR' o3
          refine Calls.mono hc.out ?_
          rintro en w7 ⟨he, h2, o2⟩
          replace he : en = .returned (.int .u64 (q : Nat)) := he
          subst he
          clear hc
          replace hR := o2.has hR hRp
          replace hX := o2.has hX hgp
          replace o1 : Hid (OffP p w w7) := o1.out.trans o2
          clear o2
          have hcell : w7.cell? ⟨w2.heap.size, 31 + n * 3 + 1, none⟩ = some (.int .u8 0) := hX.last_cell 1 hlt (by decide)
          have hfree := hX.free (31 + n * 3 + 1)
          obtain ⟨x7, hwx7⟩ : ∃ W, w7.setCell ⟨w2.heap.size, 31 + n * 3 + 1, none⟩ (.int .u8 ((q : Int) % 256)) = W := ⟨_, rfl⟩
          have hX' : Has x7 w2.heap.size 44 (stC ⟨A, setL c n ⟨m % 4294967296, ⟨q % 256, []⟩⟩, T, []⟩ none 0) := by rw [← hwx7]; exact (modn1 q).symm ▸ hX.put_code hlt (q % 256)
          have hR' : Has x7 w.heap.size 44 (stC st0 none 0) := by rw [← hwx7]; exact hR.set_other hgR _
          have h3 : RdI p x7 s7 := by rw [← hwx7]; exact h2.other (but_cell _ _ _) (by show p < w2.heap.size; omega)
          have o3 : Hid (OffP p w x7) := by rw [← hwx7]; exact o1.out.fresh (but_cell _ _ _) (by show w.heap.size ≤ w2.heap.size; omega)
          clear h2 hX hR o1
          go_wp2
          clear hwx7 hcell hfree
          go_roundw
          case rel => exact ⟨n + 1, _, s7, by omega, by go_num, hstep.out, h3, o3.out, hX', hR'⟩
          case measure => simp [intOf]; omega
        · have e3 : n = 3 := by omega
          subst e3
          have hc := rdlog_any p wr s5 h2
          obtain ⟨l, s6, e6⟩ : ∃ n s', logZ s5 = (n, s') := ⟨_, _, rfl⟩
          have hall : Hid _ := hZ.out b s4 c s5 l s6 hO6.out hO e6
          rw [e6] at hc
          replace hc : Hid _ := hc
          replace o1 : Hid _ := o1
          have hsz := hX.lt
          clear h2 hO
          go_wp2_with fail
          refine Calls.mono hc.out ?_
          rintro en w6 ⟨go, gc, he, hS, hfar, h2, o2⟩
          replace he : en = .returned (.slice go l.length gc) := he
          subst he
          clear hc
          replace hR := o2.has hR hRp
          replace hX := o2.has hX hgp
          replace o1 : Hid (OffP p w w6) := o1.out.trans o2
          clear o2
          have hcell : w6.cell? ⟨w2.heap.size, 48, none⟩ = some (.slice none 0 0) := hX.cell 48
          have hfree := hX.free (48)
          obtain ⟨x6, hwx6⟩ : ∃ W, w6.setCell ⟨w2.heap.size, 48, none⟩ (.slice go l.length gc) = W := ⟨_, rfl⟩
          have hX' : Has x6 w2.heap.size 44 (stC ⟨A, c, T, l⟩ go gc) := by rw [← hwx6]; exact hX.put_log l
          have hR' : Has x6 w.heap.size 44 (stC st0 none 0) := by rw [← hwx6]; exact hR.set_other hgR _
          have h3 : RdI p x6 s6 := by rw [← hwx6]; exact h2.other (but_cell _ _ _) (by show p < w2.heap.size; omega)
          have o3 : Hid (OffP p w x6) := by rw [← hwx6]; exact o1.out.fresh (but_cell _ _ _) (by show w.heap.size ≤ w2.heap.size; omega)
          clear h2 hX hR o1
          have hS6 : Sl x6 go gc 8 (entR l) := by rw [← hwx6]; exact hS.cells_other (k := w2.heap.size) (fun d hd => by have := hfar d hd; omega) [.slice go l.length gc] 48
          have hszx : x6.heap.size = w6.heap.size := by rw [← hwx6]; simp
          have hE : Hid (StR p w (stZ s) (.returned (.agg (stC ⟨A, c, T, l⟩ go gc))) (x6.setRow w.heap.size (stC ⟨A, c, T, l⟩ go gc))) := by
            refine ⟨go, gc, by rw [hall.out], ?_, ?_, ?_, ?_⟩
            · rw [hall.out]; exact hS6.row_other (k := w.heap.size) (fun d hd => by have := hfar d hd; omega) _
            · intro d hd
              have := hfar d hd
              exact ⟨by omega, Nat.lt_of_lt_of_le (by omega : d.block < x6.heap.size) (show But w.heap.size x6 (x6.setRow w.heap.size (stC ⟨A, c, T, l⟩ go gc)) from but_row _ _).size⟩
            · rw [hall.out]; exact h3.other (but_row _ _) hp
            · exact o3.out.fresh (but_row _ _) (Nat.le_refl _)
          have hRf := hR'.row (stC ⟨A, c, T, l⟩ go gc)
          clear h3 o3 hall hS6 hS hfar hszx
          go_wp2_with (first
            | (refine wpList_load_has (by rfl) 44 _ rfl w2.heap.size rfl 44 (stC ⟨A, c, T, l⟩ go gc) _ Tryz.underlying44 rfl (st_size _ _ _) ?hg ?_; (case hg => (try rw [hwx6]); exact hX'))
            | (refine wpList_store_to (by rfl) 44 _ _ rfl w.heap.size rfl (stC ⟨A, c, T, l⟩ go gc) rfl 44 (stC st0 none 0) (st_size _ _ _) rfl (st_one _ _ _) ?hg _ rfl ?_; (case hg => (try rw [hwx6]); exact hR'); (try rw [hwx6]))
            | fail)
          exact ret_has rfl w.heap.size rfl 44 (stC ⟨A, c, T, l⟩ go gc) _ Tryz.underlying44 rfl (st_size _ _ _) hRf rfl hE.out


theorem reader_built (ao : Option Addr) (n c : Nat) : Tryz.prog.built 113 [(0, .slice ao n c)] = some #[.slice ao n c, .bool false] := by kernel_rfl
/-- What the document's GetState answers. -/
def GetR (w : World) (ao : Option Addr) (c : Nat) (xs : List UInt8) (e : Ending) (w' : World) : Prop := Below w.heap.size w w' ∧
  ((∃ x r go gc A C, readStM xs = .ok (x, r) ∧ e = .returned (.tuple #[.agg (stC x go gc), .slice A r.length C, .bool true]) ∧ Sl w' go gc 8 (entR x.log) ∧ By w' A C r) ∨ (∃ k, readStM xs = .error k ∧ e = .returned (.tuple #[.agg (stC st0 none 0), .slice ao xs.length c, .bool false])))
theorem ret_has_tt {P : Program} {a : Act} {w : World} {fn : Func} {R : Ending → World → Prop} {p u v : Tmp} {ty : TypeId} (h : fn.results = #[.cell p ty, .tmp u, .tmp v]) (g : Nat) (hp : a.tmps.getD p undef = .pointer (some ⟨g, 0, none⟩))
    (t : TypeId) (c : Array Value) (d : TypeDesc) (hu : P.underlying ty = some d) (hd : (match d with | .struct _ | .array _ _ => true | _ => false) = true) (hi : (P.info? ty).map (·.size) = some c.size)
    (hg : Has w g t c) (hdf : a.defers = []) (hR : R (.returned (.tuple #[.agg c, a.tmps.getD u undef, a.tmps.getD v undef])) w) : bodyPost P fn R .ret a w := by
  refine bodyPost_ret ?_ hdf hR
  have hp' : a.tmps[p]?.getD undef = .pointer (some ⟨g, 0, none⟩) := by simpa using hp
  simp [results, h, hp', asAddr, Sem.run_bind, run_loadVar_row w g t ty c (0, 0) d hg hu hd hi, Result.andThen]
set_option maxHeartbeats 4000000 in
theorem rgetst_any (ao : Option Addr) (c : Nat) (xs : List UInt8) (w : World) (h : By w ao c xs) (hlt : ∀ ad, ao = some ad → ad.block < w.heap.size) (hl : xs.length ≤ 1000000000) : Calls Tryz.prog 22 #[.slice ao xs.length c] w (GetR w ao c xs) := by
  obtain ⟨w1, hw1, hR, hb1⟩ := one_var w 44 (stC st0 none 0)
  obtain ⟨w2, hw2, hP, hb2⟩ := one_var w1 113 #[.slice ao xs.length c, .bool false]
  have s1 : w1.heap.size = w.heap.size + 1 := by rw [← hw1]; simp
  rw [s1] at hP
  have hI : RdI (w.heap.size + 1) w2 ⟨xs, false⟩ := ⟨ao, c, hP, (h.later hb1).later hb2, fun ad had => by have := hlt ad had; omega, hl⟩
  replace hR := hR.later hb2
  have hR2 : Hid (w.heap.size < w2.heap.size) := hR.lt
  have hb : Below w.heap.size w w2 := hb1.trans (hb2.mono hb1.size)
  have hc := rdst_any (w.heap.size + 1) w2 ⟨xs, false⟩ hI
  have hok := stZ_ok ⟨xs, false⟩
  have hy := fun (x : StV) (r : List UInt8) (hz : stZ ⟨xs, false⟩ = (x, ⟨r, false⟩)) (hi : isSt x = true) => read_yes hz hi
  have hn1 := read_bad (b := xs)
  have hn2 := read_no (b := xs)
  obtain ⟨x, s9, e9⟩ : ∃ x s', stZ ⟨xs, false⟩ = (x, s') := ⟨_, _, rfl⟩
  rw [e9] at hc hok hn1 hn2
  have hy := hy x s9.left
  replace hok : StOk x := hok
  replace hc : Hid _ := hc
  replace hy : Hid _ := hy
  replace hn1 : Hid _ := hn1
  replace hn2 : Hid _ := hn2
  have hcap := h.cap
  clear h hlt hI hb1 hb2 hP
  go_enter Tryz.func22, Tryz.ntmps22
  go_wp2_with (first
    | (refine wpList_alloc_has (by rfl) 44 rfl (stC st0 none 0) st_zero ?_; rw [hw1]; clear hw1)
    | (refine wpList_build_one (by rfl) 113 0 _ rfl (.slice ao xs.length c) rfl #[.slice ao xs.length c, .bool false] (reader_built _ _ _) ?_)
    | (refine Go.Great.wpList_boxTo rfl 113 _ rfl _ rfl (w.heap.size + 1) rfl #[.slice ao xs.length c, .bool false] rfl ?_; rw [hw2]; clear hw2)
    | fail)
  refine Calls.mono hc.out ?_
  rintro en w3 ⟨go, gc, he, hS, hfar, h3, o3⟩
  replace he : en = .returned (.agg (stC x go gc)) := he
  subst he
  clear hc
  replace hR := o3.has hR (show ¬ w.heap.size = w.heap.size + 1 by omega)
  have hR3 := hR.lt
  have hR2 : w.heap.size < w2.heap.size := hR2.out
  have hb3 : Below w.heap.size w w3 := hb.trans (o3.below (fun b z => by have : b = (w.heap.size + 1) := z; omega) hb.size)
  obtain ⟨w4, hw4, hX, hq⟩ := new_var w3 44 (stC st0 none 0) (stC x go gc)
  replace hR := hR.later hq
  replace h3 := h3.later hq
  replace hS : Sl w4 go gc 8 (entR x.log) := hS.later hq
  have hb4 : Below w.heap.size w w4 := hb3.trans (hq.mono hb3.size)
  obtain ⟨hbad, hbfr⟩ := h3.bad
  obtain ⟨s9l, s9b⟩ := s9
  replace hbad : w4.cell? ⟨(w.heap.size + 1), 1, none⟩ = some (.bool s9b) := hbad
  clear hb hb3 hq o3
  cases hbd : s9b with
  | true =>
    rw [hbd] at hbad
    obtain ⟨k, hk⟩ := hn1.out hbd
    have hRf := hR.row (stC st0 none 0)
    have hE : Hid (GetR w ao c xs (.returned (.tuple #[.agg (stC st0 none 0), .slice ao xs.length c, .bool false])) (w4.setRow w.heap.size (stC st0 none 0))) := ⟨below_setRow hb4 (Nat.le_refl _) _, .inr ⟨k, hk, rfl⟩⟩
    clear hb4 hk hn1 hn2 hy
    go_wp2_with (first
      | (refine wpList_alloc_has (by rfl) 44 rfl (stC st0 none 0) st_zero ?_)
      | (refine wpList_store_to (by rfl) 44 _ _ rfl w3.heap.size rfl (stC x go gc) rfl 44 (stC st0 none 0) (st_size _ _ _) rfl (st_one _ _ _) ?hg w4 ?hW ?_; (case hg => exact Has.new _ _ _); (case hW => exact hw4); clear hw4)
      | (refine wpList_build_l (by rfl) 44 [] rfl [] rfl (stC st0 none 0) st_built0 ?_)
      | (refine wpList_store_has (by rfl) 44 _ _ rfl w.heap.size rfl (stC st0 none 0) rfl 44 (stC st0 none 0) (st_size _ _ _) rfl (st_one _ _ _) ?hg ?_; (case hg => exact hR))
      | fail)
    exact ret_has_tt rfl w.heap.size rfl 44 (stC st0 none 0) _ Tryz.underlying44 rfl (st_size _ _ _) hRf rfl hE.out
  | false =>
    rw [hbd] at hbad
    have his := refis_any7 x go gc w4 hok hS
    replace his : Hid _ := his
    go_wp2_with (first
      | (refine wpList_alloc_has (by rfl) 44 rfl (stC st0 none 0) st_zero ?_)
      | (refine wpList_store_to (by rfl) 44 _ _ rfl w3.heap.size rfl (stC x go gc) rfl 44 (stC st0 none 0) (st_size _ _ _) rfl (st_one _ _ _) ?hg w4 ?hW ?_; (case hg => exact Has.new _ _ _); (case hW => exact hw4); clear hw4)
      | (refine wpList_load_has (by rfl) 44 _ rfl w3.heap.size rfl 44 (stC x go gc) _ Tryz.underlying44 rfl (st_size _ _ _) ?hg ?_; (case hg => exact hX))
      | fail)
    refine Calls.mono his.out ?_
    rintro en w5 ⟨rfl, hq⟩
    clear his
    replace hR := hR.later hq
    replace hX := hX.later hq
    replace h3 := h3.later hq
    replace hS := hS.later hq
    replace hb4 := hb4.trans (hq.mono hb4.size)
    clear hq hbad hbfr
    cases hi : isSt x with
    | false =>
      obtain ⟨k, hk⟩ := hn2.out hi
      have hRf := hR.row (stC st0 none 0)
      have hE : Hid (GetR w ao c xs (.returned (.tuple #[.agg (stC st0 none 0), .slice ao xs.length c, .bool false])) (w5.setRow w.heap.size (stC st0 none 0))) := ⟨below_setRow hb4 (Nat.le_refl _) _, .inr ⟨k, hk, rfl⟩⟩
      clear hb4 hk hn1 hn2 hy hi
      go_wp2_with (first
        | (refine wpList_build_l (by rfl) 44 [] rfl [] rfl (stC st0 none 0) st_built0 ?_)
        | (refine wpList_store_has (by rfl) 44 _ _ rfl w.heap.size rfl (stC st0 none 0) rfl 44 (stC st0 none 0) (st_size _ _ _) rfl (st_one _ _ _) ?hg ?_; (case hg => exact hR))
        | fail)
      exact ret_has_tt rfl w.heap.size rfl 44 (stC st0 none 0) _ Tryz.underlying44 rfl (st_size _ _ _) hRf rfl hE.out
    | true =>
      have hM := hy.out (by rw [hbd] at e9; exact e9) hi
      obtain ⟨A, C, hp5, hB5, hA5, _⟩ := h3
      replace hp5 : Has w5 (w.heap.size + 1) 113 #[.slice A s9l.length C, .bool false] := by rw [← hbd]; exact hp5
      replace hB5 : By w5 A C s9l := hB5
      have hX3 := hX.lt
      have hAle := hB5.le
      have hAcap := hB5.cap
      have hE : Hid (∀ W, But w.heap.size w5.drew W → Has W w.heap.size 44 (stC x go gc) → GetR w ao c xs (.returned (.tuple #[.agg (stC x go gc), .slice A s9l.length C, .bool true])) W) := fun W hBt hW => by
        have hD : Below w5.heap.size w5 w5.drew := (Below.refl _ _).drew
        refine ⟨(hb4.trans (hD.mono hb4.size)).trans (hBt.below (Nat.le_refl _) (Nat.le_trans hb4.size hD.size)), .inl ⟨x, s9l, go, gc, A, C, hM, rfl, Sl.off (hS.later hD) (OffF.but hBt) (fun ad had _ z => ?_), (hB5.later hD).at (fun ad had _ => hBt.block _ (by have := hA5 ad had; have := hb4.size; have := hD.size; omega) (by have := hA5 ad had; omega))⟩⟩
        have h1 := hfar ad had
        have h2 : ad.block = w.heap.size := z
        omega
      replace hR := hR.drew
      replace hX := hX.drew
      replace hp5 := hp5.drew
      clear hb4 hM hn1 hn2 hy hi hB5 hA5 hS hfar
      go_wp2_with fail
      refine wp_region_plan (fun W => Has W w3.heap.size 44 (stC x go gc) ∧ Has W (w.heap.size + 1) 113 #[.slice A s9l.length C, .bool false]) (Plan.of [(0, true), (1, true), (2, true), (3, true), (4, true), (5, false), (6, true), (7, true)] .done) (by kernel_rfl) (by kernel_rfl) (by kernel_rfl) (by kernel_rfl) ⟨hX, hp5⟩ ?_
      generalize w5.drew = w6 at *
      refine plan_take _ _ rfl (yields_load_has (by rfl) 44 _ rfl w3.heap.size rfl 44 (stC x go gc) _ Tryz.underlying44 rfl (st_size _ _ _) (fun W hW => hW.1)) ?_
      try simp only [Act.put, List.setIfInBounds_toArray, List.set_cons_zero, List.set_cons_succ]
      iterate 3
        first
          | (refine plan_pass _ rfl (by rfl) ?_)
          | (refine plan_take _ _ rfl (.inl ⟨by rfl, fun W hS => by clear hS; go_simp; try with_reducible rfl⟩) ?_)
        try simp only [Act.put, List.setIfInBounds_toArray, List.set_cons_zero, List.set_cons_succ]
      iterate 1
        first
          | (refine plan_pass _ rfl (by rfl) ?_)
          | (refine plan_take _ _ rfl (.inl ⟨by rfl, fun W hS => by have z : W.cell? ⟨(w.heap.size + 1), 0, none⟩ = some (.slice A s9l.length C) := hS.2.cell 0; go_simp; try with_reducible rfl⟩) ?_)
        try simp only [Act.put, List.setIfInBounds_toArray, List.set_cons_zero, List.set_cons_succ]
      refine plan_store_has _ rfl (by rfl) 44 _ _ rfl w.heap.size rfl (stC x go gc) rfl 44 (stC st0 none 0) (st_size _ _ _) rfl (st_one _ _ _) hR ?_ ?_
      · exact ⟨(show But w.heap.size w6 (w6.setRow w.heap.size (stC x go gc)) from but_row _ _).has hX (by omega), (show But w.heap.size w6 (w6.setRow w.heap.size (stC x go gc)) from but_row _ _).has hp5 (by omega)⟩
      try simp only [Act.put, List.setIfInBounds_toArray, List.set_cons_zero, List.set_cons_succ]
      iterate 2
        first
          | (refine plan_pass _ rfl (by rfl) ?_)
          | (refine plan_take _ _ rfl (.inl ⟨by rfl, fun W hS => by clear hS; go_simp; try with_reducible rfl⟩) ?_)
        try simp only [Act.put, List.setIfInBounds_toArray, List.set_cons_zero, List.set_cons_succ]
      refine plan_done ?_
      have hRf := hR.row (stC x go gc)
      have hEE := hE.out _ (but_row _ _) hRf
      go_wp2_with fail
      exact ret_has_tt rfl w.heap.size rfl 44 (stC x go gc) _ Tryz.underlying44 rfl (st_size _ _ _) hRf rfl hEE
end Go.Proofs.YtecilienolabfaaGreatDoor
