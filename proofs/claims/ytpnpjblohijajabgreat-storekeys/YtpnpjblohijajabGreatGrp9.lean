/- ContMem, Any, PlanP, joined. -/
import Derived.Test.YtpnpjblohijajabGreatChecked
import Derived.Test.YtpnpjblohijajabGreatGrp2
import Derived.Test.YtpnpjblohijajabGreatGrp8
import Derived.Test.YtpnpjblohijajabGreatGrp3
import Derived.Maps.RangeWalk
import Derived.Sort.KeysCollected
import Derived.Test.YtpnpjblohijajabGreatPackTools
namespace Go.Proofs.YtpnpjblohijajabGreat
section
set_option linter.unusedSimpArgs false
set_option linter.unusedVariables false
set_option maxRecDepth 100000
open Go.RowKit Go.MapKept Go.Maps

def cellV (b : List UInt8) : Value := .agg #[strV b]
def cellD (b : List UInt8) : DataW Nat := .agg [.lit (.string b)]
def cellR : Value → Option (DataW Nat × List MemPlace)
  | .agg ⟨[.string s]⟩ => some (cellD s.data.toList, [])
  | _ => none
theorem mkS_data (b : List UInt8) : (mkS b).data.toList = b := by unfold mkS; simp
theorem mkS_back (s : ByteArray) : mkS s.data.toList = s := by unfold mkS; simp
theorem cellR_mk (b : List UInt8) : cellR (cellV b) = some (cellD b, []) := by
  show some (cellD (mkS b).data.toList, ([] : List MemPlace)) = _
  rw [mkS_data]
theorem cellR_inv {v : Value} {y : DataW Nat × List MemPlace} (h : cellR v = some y) : ∃ b, v = cellV b ∧ y = (cellD b, []) := by
  unfold cellR at h
  split at h
  · rename_i s
    injection h with h
    exact ⟨s.data.toList, by unfold cellV strV; rw [mkS_back], h.symm⟩
  · cases h
theorem cellD_inj {a b : List UInt8} (h : cellD a = cellD b) : a = b := by
  unfold cellD at h
  injection h with h
  injection h with h _
  injection h with h
  injection h
def encM (l : ConL) : DataW Nat := .map (l.map fun p => (.string p.1, cellD p.2))
theorem same_key (a b : List UInt8) : Lit.sameKey (.string a) (.string b) = (a == b) := rfl
theorem enc_filter (k : List UInt8) : ∀ l : ConL, (l.map fun p => (Lit.string p.1, cellD p.2)).filter (fun p => !p.1.sameKey (.string k)) = (delK l k).map fun p => (.string p.1, cellD p.2)
  | [] => rfl
  | y :: r => by
    have ih := enc_filter k r
    unfold delK at *
    rw [List.map_cons, List.filter_cons, List.filter_cons, same_key, ih]
    cases (y.1 == k) <;> rfl
theorem enc_del (l : ConL) (k : List UInt8) : (encM l).del (.string k) = encM (delK l k) := by
  show DataW.map _ = _
  rw [enc_filter]
  rfl
theorem enc_ins (k b : List UInt8) : ∀ l : ConL, DataW.insert (Lit.string k, cellD b) (l.map fun p => (Lit.string p.1, cellD p.2)) = (insK (k, b) l).map fun p => (.string p.1, cellD p.2)
  | [] => rfl
  | y :: r => by
    have ih := enc_ins k b r
    rw [List.map_cons]
    unfold DataW.insert insK
    show (if bytesBefore k y.1 = true then _ else _) = _
    cases hb : bytesBefore k y.1
    · rw [if_neg (by decide), if_neg (by decide), ih]; rfl
    · rw [if_pos rfl, if_pos rfl]; rfl
theorem enc_put (l : ConL) (k b : List UInt8) : (encM l).put (.string k) (cellD b) = encM (putK l k b) := by
  show DataW.map _ = _
  rw [enc_filter, enc_ins]
  rfl
theorem enc_find (k : List UInt8) : ∀ l : ConL, (l.map fun p => (Lit.string p.1, cellD p.2)).find? (fun p => p.1.sameKey (.string k)) = (l.find? (fun p => p.1 == k)).map (fun p => (Lit.string p.1, cellD p.2))
  | [] => rfl
  | y :: r => by
    rw [List.map_cons, List.find?_cons, List.find?_cons, same_key, enc_find k r]
    cases (y.1 == k) <;> rfl
theorem enc_at (l : ConL) (k : List UInt8) (z : DataW Nat) : (encM l).atKey (.string k) z = match getK l k with | some b => cellD b | none => z := by
  unfold DataW.atKey encM getK
  simp only
  rw [enc_find]
  cases l.find? (fun p => p.1 == k) <;> rfl
theorem enc_has (l : ConL) (k : List UInt8) : Maps.has (encM l) (.string k) = (getK l k).isSome := by
  cases h : getK l k with
  | none => exact Maps.has_false_of_atKey fun z => by rw [enc_at, h]
  | some b => exact Maps.has_true_of_atKey (y := cellD b) fun z => by rw [enc_at, h]
theorem enc_size (l : ConL) : Maps.size (encM l) = l.length := by unfold encM Maps.size; simp
theorem enc_keys (l : ConL) : strKeys (encM l) = l.map (·.1) := by
  unfold encM strKeys
  simp only [List.map_map]
  rfl
theorem und_cmap : Tryz.prog.underlying 50 = some (.map 9 53) := Tryz.underlying50
theorem kd_string : Keyed Tryz.prog 9 := string_keyed Tryz.underlying9
theorem cell_zero (w : World) : (zeroValue 53).run Tryz.prog w = .ok (cellV []) w := by kernel_rfl
theorem key_str (k : List UInt8) (h : k.length ≤ maxLen) : keyOf Tryz.prog 9 (strV k) = some (.string k) := by
  have := WideMaps.keyOf_string_mk (P := Tryz.prog) (k := 9) Tryz.underlying9 (s := mkS k) (by rw [mkS_size]; exact h)
  rw [mkS_data] at this
  exact this
/-- Block b is a map that holds these. -/
def ContAt (w : World) (b : Nat) (l : ConL) : Prop := w.ownsMap Tryz.prog 9 cellR b l.length (encM l)
theorem cont_of {w : World} {b n : Nat} {l : ConL} (h : w.ownsMap Tryz.prog 9 cellR b n (encM l)) : ContAt w b l := by
  obtain ⟨es, clock, hb, F, hs, hD⟩ := h
  refine ⟨es, clock, hb, F, ?_, hD⟩
  have h1 := congrArg Maps.size hD
  rw [enc_size] at h1
  have h2 : Maps.size (DataW.map ((es.toList.map (Go.WideElems.rg Tryz.prog 9 cellR)).foldr DataW.insert [])) = es.size := by simp [Maps.size, length_sorted]
  rw [h2] at h1
  omega
theorem ContAt.lt {w : World} {b : Nat} {l : ConL} (h : ContAt w b l) : b < w.heap.size := World.ownsMap.lt h
theorem ContAt.block {w w' : World} {b : Nat} {l : ConL} (h : ContAt w b l) (k : w'.heap[b]? = w.heap[b]?) : ContAt w' b l := by
  obtain ⟨es, clock, hb, r⟩ := h
  exact ⟨es, clock, k.trans hb, r⟩
theorem ContAt.later {w w' : World} {b : Nat} {l : ConL} (h : ContAt w b l) (hb : Below w.heap.size w w') : ContAt w' b l := h.block (hb.block b h.lt)
theorem ContAt.but {w w' : World} {b g : Nat} {l : ConL} (h : ContAt w b l) (hb : But g w w') (hg : b ≠ g) : ContAt w' b l := h.block (hb.block b h.lt hg)
theorem ContAt.off {F : Nat → Prop} {w w' : World} {b : Nat} {l : ConL} (h : ContAt w b l) (hb : OffF F w w') (hg : ¬ F b) : ContAt w' b l := h.block (hb.block b h.lt hg)
theorem ContAt.new (w : World) : ContAt (w.alloc (.map #[] 0)) w.heap.size [] := World.ownsMap_made w _ _ _
theorem ContAt.not_has {w : World} {g b : Nat} {t : TypeId} {c : Array Value} {l : ConL} (k : ContAt w b l) (h : Has w g t c) : g ≠ b := by
  rintro rfl
  obtain ⟨es, clock, hb, _⟩ := k
  unfold Has at h
  rw [hb] at h
  cases h
theorem enc_sorted {l : ConL} (h : Canon (encM l)) : SortedL l := by
  obtain ⟨es, he, hp, _⟩ := h
  injection he with he
  subst he
  rw [List.pairwise_map] at hp
  exact hp
theorem ContAt.sorted {w : World} {b : Nat} {l : ConL} (h : ContAt w b l) : SortedL l := enc_sorted (World.ownsMap.canon h kd_string)
theorem but_turned {w w' : World} {b : Nat} (h : w.mapTurned w' b) : But b w w' := by
  have g := h.grown
  exact ⟨g.os, g.tape, g.output, g.size, fun k hk hn => g.block k hk (fun e => hn (Option.some.inj e))⟩
theorem but_grown {w w' : World} {b : Nat} (g : w.grownBy w' (some b)) : But b w w' :=
  ⟨g.os, g.tape, g.output, g.size, fun k hk hn => g.block k hk (fun e => hn (Option.some.inj e))⟩
theorem below_none {w w' : World} (g : w.grownBy w' none) : Below w.heap.size w w' :=
  ⟨g.os, g.tape, g.output, g.size, fun k hk => g.block k hk (fun e => by cases e)⟩
section
variable {ops : Array Oper} {rest : List Oper} {o : Oper} {a : Act} {w : World} {Q : Exit → Act → World → Prop} {b : Nat} {l : ConL}
theorem run_lookC (h : ContAt w b l) (k : List UInt8) (hk : k.length ≤ maxLen) : (Instr.lookup 50 (.map (some b)) (strV k) true).run Tryz.prog w = .ok (.tuple #[cellV ((getK l k).getD []), .bool (getK l k).isSome]) w := by
  obtain ⟨v, ps, hr, hv⟩ := World.ownsMap.look_ok h kd_string und_cmap (cell_zero w) (cellR_mk []) (key_str k hk)
  rw [enc_at] at hv
  rw [enc_has] at hr
  rw [hr]
  obtain ⟨c, rfl, hc⟩ := cellR_inv hv
  injection hc with hc _
  cases hg : getK l k with
  | none => rw [hg] at hc; rw [cellD_inj hc.symm]; rfl
  | some x => rw [hg] at hc; rw [cellD_inj hc.symm]; rfl
theorem run_lookC1 (h : ContAt w b l) (k : List UInt8) (hk : k.length ≤ maxLen) : (Instr.lookup 50 (.map (some b)) (strV k) false).run Tryz.prog w = .ok (cellV ((getK l k).getD [])) w := by
  obtain ⟨v, ps, hr, hv⟩ := World.ownsMap.lookup h kd_string und_cmap (cell_zero w) (cellR_mk []) (key_str k hk)
  rw [enc_at] at hv
  rw [hr]
  obtain ⟨c, rfl, hc⟩ := cellR_inv hv
  injection hc with hc _
  cases hg : getK l k with
  | none => rw [hg] at hc; rw [cellD_inj hc.symm]; rfl
  | some x => rw [hg] at hc; rw [cellD_inj hc.symm]; rfl
theorem run_putC (h : ContAt w b l) (k v : List UInt8) (hk : k.length ≤ maxLen) (hl : l.length ≤ 100000) : ∃ w', (Instr.mapUpdate 50 (.map (some b)) (strV k) (cellV v)).run Tryz.prog w = .ok () w' ∧ ContAt w' b (putK l k v) ∧ But b w w' := by
  obtain ⟨w', hr, ho, ht⟩ := World.ownsMap.store h kd_string und_cmap (by unfold maxLen; omega) (key_str k hk) (cellR_mk v)
  rw [enc_put] at ho
  exact ⟨w', hr, cont_of ho, but_turned ht⟩
theorem run_delC (h : ContAt w b l) (k : List UInt8) (hk : k.length ≤ maxLen) (ty : TypeId) : ∃ w', (Builtin.delete_ #[50, 9] ty #[.map (some b), strV k]).run Tryz.prog w = .ok (.tuple #[]) w' ∧ ContAt w' b (delK l k) ∧ But b w w' := by
  obtain ⟨w', hr, ho, ht⟩ := World.ownsMap.drop h kd_string und_cmap (key_str k hk) ty
  rw [enc_del] at ho
  exact ⟨w', hr, cont_of ho, but_turned ht⟩
theorem run_lenC (h : ContAt w b l) (ty : TypeId) : (Builtin.len_ #[50] ty #[.map (some b)]).run Tryz.prog w = .ok (.int .i64 (l.length : Nat)) w := by
  have := World.ownsMap.len h und_cmap ty
  rw [enc_size] at this
  exact this
theorem wpList_lookC (hw : Region.wanted o (yielded ops a.tmps) = true) (m x : Operand) (ho : o.op = .lookup 50 m x true) (hm : a.eval m = .map (some b)) (k : List UInt8) (hx : a.eval x = strV k) (h : ContAt w b l) (hk : k.length ≤ maxLen) (v : List UInt8) (y : Bool) (hv : (getK l k).getD [] = v) (hy : (getK l k).isSome = y)
    (hK : wpList Tryz.prog ops Q rest (a.put o.dst (.tuple #[.agg #[.string (mkS v)], .bool y])) w) : wpList Tryz.prog ops Q (o :: rest) a w := by
  refine BigFrame.wpList_want hw fun K hK' => ?_
  unfold Oper.wp execOp
  simp only [ho, hm, hx]
  simp only [Sem.run_bind, run_lookC h k hk, hv, hy]
  exact hK' _ _ hK
theorem wpList_lookC1 (hw : Region.wanted o (yielded ops a.tmps) = true) (m x : Operand) (ho : o.op = .lookup 50 m x false) (hm : a.eval m = .map (some b)) (k : List UInt8) (hx : a.eval x = strV k) (h : ContAt w b l) (hk : k.length ≤ maxLen) (v : List UInt8) (hv : (getK l k).getD [] = v)
    (hK : wpList Tryz.prog ops Q rest (a.put o.dst (.agg #[.string (mkS v)])) w) : wpList Tryz.prog ops Q (o :: rest) a w := by
  refine BigFrame.wpList_want hw fun K hK' => ?_
  unfold Oper.wp execOp
  simp only [ho, hm, hx]
  simp only [Sem.run_bind, run_lookC1 h k hk, hv]
  exact hK' _ _ hK
theorem wpList_putC (hw : Region.wanted o (yielded ops a.tmps) = true) (m x y : Operand) (ho : o.op = .mapUpdate 50 m x y) (hm : a.eval m = .map (some b)) (k v : List UInt8) (hx : a.eval x = strV k) (hy : a.eval y = cellV v) (h : ContAt w b l) (hk : k.length ≤ maxLen) (hl : l.length ≤ 100000)
    (hK : ∀ w', ContAt w' b (putK l k v) → But b w w' → wpList Tryz.prog ops Q rest (a.put o.dst undef) w') : wpList Tryz.prog ops Q (o :: rest) a w := by
  refine BigFrame.wpList_want hw fun K hK' => ?_
  obtain ⟨w', hr, hc, hb⟩ := run_putC h k v hk hl
  unfold Oper.wp execOp
  simp only [ho, hm, hx, hy]
  simp only [Sem.run_bind, hr]
  exact hK' _ _ (hK w' hc hb)
theorem wpList_delC (hw : Region.wanted o (yielded ops a.tmps) = true) (m x : Operand) (ho : o.op = Op.call { callee := Callee.builtin Builtin.delete, args := #[m, x], argTypes := #[50, 9] }) (hm : a.eval m = .map (some b)) (k : List UInt8) (hx : a.eval x = strV k) (h : ContAt w b l) (hk : k.length ≤ maxLen)
    (hK : ∀ w', ContAt w' b (delK l k) → But b w w' → wpList Tryz.prog ops Q rest (a.put o.dst (.tuple #[])) w') : wpList Tryz.prog ops Q (o :: rest) a w := by
  refine BigFrame.wpList_want hw fun K hK' => ?_
  obtain ⟨w', hr, hc, hb⟩ := run_delC h k hk o.type
  unfold Oper.wp
  simp [execOp, ho, resolve, invoke, builtin, hm, hx, hr, Result.andThen]
  exact hK' _ _ (hK w' hc hb)
theorem wpList_lenC (hw : Region.wanted o (yielded ops a.tmps) = true) (m : Operand) (ho : o.op = Op.call { callee := Callee.builtin Builtin.len, args := #[m], argTypes := #[50] }) (hm : a.eval m = .map (some b)) (h : ContAt w b l) (n : Nat) (hn : l.length = n)
    (hK : wpList Tryz.prog ops Q rest (a.put o.dst (.int .i64 (n : Int))) w) : wpList Tryz.prog ops Q (o :: rest) a w := by
  subst hn
  refine BigFrame.wpList_want hw fun K hK' => ?_
  unfold Oper.wp
  simp [execOp, ho, resolve, invoke, builtin, hm, run_lenC h o.type, Result.andThen]
  exact hK' _ _ hK
end
/-! ### A range over it, in whatever order -/
/-- What is still to come. -/
def restL (l : ConL) (left : List UInt8 → Bool) : Nat := (l.map fun p => if left p.1 then p.1.length + p.2.length else 0).sum
theorem rest_none (l : ConL) (left : List UInt8 → Bool) (h : ∀ k, left k = false) : restL l left = 0 := by
  unfold restL
  induction l with
  | nil => rfl
  | cons y r ih => rw [List.map_cons, List.sum_cons, ih, h]; rfl
theorem rest_all {l : ConL} (hs : SortedL l) (left : List UInt8 → Bool) (h : ∀ p ∈ l, left p.1 = true) : restL l left + 24 * l.length = sizeL l := by
  clear hs
  unfold restL sizeL
  induction l with
  | nil => rfl
  | cons y r ih =>
    have := ih fun p hp => h p (List.mem_cons_of_mem _ hp)
    have h1 := h y List.mem_cons_self
    rw [List.map_cons, List.sum_cons, List.map_cons, List.sum_cons, List.length_cons, h1]
    simp only [if_true]
    omega
theorem rest_strike {l : ConL} (hs : SortedL l) (left : List UInt8 → Bool) {k v : List UInt8} (hm : (k, v) ∈ l) (hl : left k = true) : restL l left = restL l (fun z => left z && !(z == k)) + (k.length + v.length) := by
  unfold restL
  induction l with
  | nil => cases hm
  | cons y r ih =>
    obtain ⟨h1, h2⟩ := List.pairwise_cons.1 hs
    rw [List.map_cons, List.sum_cons, List.map_cons, List.sum_cons]
    rcases List.mem_cons.1 hm with rfl | hm
    · have e : (r.map fun p => if (left p.1 && !(p.1 == k)) = true then p.1.length + p.2.length else 0) = r.map fun p => if left p.1 = true then p.1.length + p.2.length else 0 := by
        refine List.map_congr_left fun p hp => ?_
        have hne : (p.1 == k) = false := by rw [beq_eq_false_iff_ne]; exact fun e => bb_ne (h1 p hp) e.symm
        rw [hne]
        simp
      rw [e]
      simp only [hl, beq_self_eq_true, Bool.not_true, Bool.and_false, if_true]
      simp
      omega
    · have hne : (y.1 == k) = false := by rw [beq_eq_false_iff_ne]; exact bb_ne (h1 _ hm)
      have e2 : (left y.1 && !(y.1 == k)) = left y.1 := by rw [hne]; simp
      rw [ih h2 hm]
      show _ = (if (left y.1 && !(y.1 == k)) = true then _ else _) + _ + _
      rw [e2]
      omega
/-- A range under way. -/
def RngAt (w : World) (b r : Nat) (l : ConL) (left : List UInt8 → Bool) (cnt : Nat) : Prop := ∃ lf : Lit → Bool, w.ranges Tryz.prog 9 cellR b r l.length (encM l) lf cnt ∧ ∀ k, lf (.string k) = left k
theorem RngAt.owns {w : World} {b r : Nat} {l : ConL} {left : List UInt8 → Bool} {cnt : Nat} (h : RngAt w b r l left cnt) : ContAt w b l := by
  obtain ⟨lf, h, _⟩ := h
  exact h.owns
theorem RngAt.left {w : World} {b r : Nat} {l : ConL} {left : List UInt8 → Bool} {cnt : Nat} (h : RngAt w b r l left cnt) : w.rangeLeft b r = cnt := by
  obtain ⟨lf, h, _⟩ := h
  exact h.left_eq
section
variable {ops : Array Oper} {rest : List Oper} {o : Oper} {a : Act} {w : World} {Q : Exit → Act → World → Prop} {b : Nat} {l : ConL}
theorem wpList_rangeC (hg : o.guard = none) (m : Operand) (hop : o.op = Op.range 50 m) (hm : a.eval m = .map (some b)) (h : ContAt w b l)
    (hK : ∀ w', RngAt w' b w.heap.size l (fun k => (getK l k).isSome) l.length → Below w.heap.size w w' → wpList Tryz.prog ops Q rest (a.put o.dst (.pointer (some ⟨w.heap.size, 0, none⟩))) w') :
    wpList Tryz.prog ops Q (o :: rest) a w := by
  refine wpList_range_own w hg m 50 hop 9 53 kd_string und_cmap cellR b l.length (encM l) hm h fun w' hr hg' _ => ?_
  rw [enc_size] at hr
  exact hK w' ⟨_, hr, fun k => enc_has l k⟩ (below_none hg')
theorem wpList_nextC (hg : o.guard = none) (it : Operand) (hop : o.op = Op.next it false) (r : Nat) (left : List UInt8 → Bool) (cnt : Nat) (hit : a.eval it = .pointer (some ⟨r, 0, none⟩)) (h : RngAt w b r l left cnt)
    (hDone : (∀ k, left k = false) → wpList Tryz.prog ops Q rest (a.put o.dst (.tuple #[.bool false])) w)
    (hMore : ∀ (k v : List UInt8) (w' : World) (cnt' : Nat), (k, v) ∈ l → left k = true → RngAt w' b r l (fun z => left z && !(z == k)) cnt' → cnt' < cnt → But r w w' →
      (Instr.entry (.pointer (some ⟨r, 0, none⟩))).run Tryz.prog w' = .ok (.tuple #[.string (mkS k), .agg #[.string (mkS v)]]) w' → wpList Tryz.prog ops Q rest (a.put o.dst (.tuple #[.bool true, .string (mkS k), .agg #[.string (mkS v)]])) w') :
    wpList Tryz.prog ops Q (o :: rest) a w := by
  obtain ⟨lf, hr, hlf⟩ := h
  refine wpList_next_ranges w hg it hop 9 kd_string cellR strV cellV (fun key kl hk => ?_) (fun v y hv => ?_) b r l.length (encM l) lf cnt hit hr (fun _ hz => hDone fun k => by rw [← hlf k]; exact hz _) fun x c kl y w' cnt' hk hlk hv hat hrg hlt hgr _ hen => ?_
  · obtain ⟨s, rfl, _, _⟩ := WideMaps.string_of_keyOf Tryz.underlying9 hk
    exact ⟨s.data.toList, by unfold strV; rw [mkS_back]⟩
  · obtain ⟨c, rfl, _⟩ := cellR_inv hv
    exact ⟨c, rfl⟩
  · obtain ⟨s, hs, rfl, _⟩ := WideMaps.string_of_keyOf Tryz.underlying9 hk
    have hx : s.data.toList = x := by
      unfold strV at hs
      injection hs with hs
      rw [← hs, mkS_data]
    rw [hx] at hlk hat hrg
    have hc : getK l x = some c := by
      have h1 := hat (.lit (.bool true))
      have h2 := hat (.lit (.bool false))
      rw [enc_at] at h1 h2
      rw [cellR_mk] at hv
      injection hv with hv
      cases hg : getK l x with
      | none => rw [hg] at h1 h2; rw [← h2] at h1; injection h1 with h1; injection h1 with h1; cases h1
      | some z =>
        rw [hg, ← hv] at h1
        rw [cellD_inj h1]
    refine hMore x c w' cnt' (get_some hc) (by rw [← hlf]; exact hlk) ⟨_, hrg, fun z => ?_⟩ hlt (but_grown hgr) hen
    show (lf (.string z) && !Lit.sameKey (.string z) (.string x)) = _
    rw [hlf z, same_key]
end
end

section
set_option linter.unusedSimpArgs false
set_option linter.unusedVariables false
open Go.RowKit

/-- What is to hold behind a region: F of what was and what is; elsewhere the post as it stands. -/
def MidQ (F : Act → Act → World → Prop) (a : Act) (Q : Exit → Act → World → Prop) : Exit → Act → World → Prop
  | .normal, a', w' => F a a' w'
  | e, a', w' => Q e a' w'

section
variable {P : Program} {ops : Array Oper} {Q : Exit → Act → World → Prop} {S : World → Prop}

theorem MidQ.imp {F : Act → Act → World → Prop} {a : Act} (hk : ∀ a' w', F a a' w' → Q .normal a' w') : ∀ (e : Exit) (a' : Act) (w' : World), MidQ F a Q e a' w' → Q e a' w' := fun e a' w' h => by
  cases e <;> first | exact hk _ _ h | exact h

theorem mid_done {F : Act → Act → World → Prop} {a a' : Act} {w' : World} (h : F a a' w') : MidQ F a Q .normal a' w' := h

theorem wp_region_plan_mid {id : Nat} {a : Act} {w : World} (S : World → Prop) (p : Plan) (F : Act → Act → World → Prop) (hm : P.follows .mixedOrders = true) (hs : Region.noSelect ops = true) (hf : Plan.fits .any ops p (Array.replicate ops.size false) = true) (hn : decide (Plan.fuel p ≤ ops.size) = true)
    (hS : S w.drew) (h : wpPlan P ops (NoPanic (MidQ F a Q)) S p a w.drew) (hk : ∀ a' w', F a a' w' → Q .normal a' w') : (Code.region id ops true).wp P Q a w :=
  Code.wp_mono (MidQ.imp hk) (wp_region_plan S p hm hs hf hn hS h)

theorem wp_region_any_mid {id : Nat} {a : Act} {w : World} (S : World → Prop) (n : Nat) (L : Array Bool) (F : Act → Act → World → Prop) (hm : P.follows .mixedOrders = true) (hn : ops.size = n) (hL : Array.replicate ops.size false = L)
    (h : wpAnyH P .any ops (NoPanic (MidQ F a Q)) S n L a w.drew) (hk : ∀ a' w', F a a' w' → Q .normal a' w') : (Code.region id ops true).wp P Q a w := by
  subst hn hL
  exact Code.wp_mono (MidQ.imp hk) (wp_region_noPanic (wp_region_held hm h))

theorem any_done {fuel : Nat} {L : Array Bool} {a : Act} {w : World} (hr : Region.ready .any ops L = []) (h : Q .normal a w) : wpAnyH P .any ops (NoPanic Q) S fuel L a w := wpAnyH_done hr (NoPanic.normal h) fuel
theorem any_take {fuel : Nat} {L : Array Bool} {a : Act} {w : World} (i : Nat) (o : Oper) (v : Value) (ho : nth ops.toList i = some o) (hs : Region.noSelect ops = true) (hf : Region.free .any ops L i = true) (hr : (Region.ready .any ops L).contains i = true) (hS : S w) (hy : YieldsIf P ops S o v a)
    (h : wpAnyH P .any ops (NoPanic Q) S fuel (L.setIfInBounds i true) (a.put o.dst v) w) : wpAnyH P .any ops (NoPanic Q) S (fuel + 1) L a w := wpAnyH_take (nth_at ho) hs hf hr (fun _ _ _ h => h) hy hS h

/-- One of those that can come up, behind a '∀ K'. -/
def AnyRun (P : Program) (ops : Array Oper) (Q : Exit → Act → World → Prop) (S : World → Prop) (fuel : Nat) (L : Array Bool) (i : Nat) (a : Act) (w : World) : Prop := wpOp P ops (NoPanic Q) i (fun a' w' => S w' ∧ wpAnyH P .any ops (NoPanic Q) S fuel (L.setIfInBounds i true) a' w') a w
theorem any_one {fuel : Nat} {L : Array Bool} {a : Act} {w : World} (i : Nat) (hr : Region.ready .any ops L = [i]) (h : AnyRun P ops Q S fuel L i a w) : wpAnyH P .any ops (NoPanic Q) S (fuel + 1) L a w :=
  wpAnyH_all hr (by simp) fun j hj => by
    have e : j = i := by simpa using hj
    rw [e]
    exact h
theorem any_two {fuel : Nat} {L : Array Bool} {a : Act} {w : World} (i j : Nat) (hr : Region.ready .any ops L = [i, j]) (h : AnyRun P ops Q S fuel L i a w) (h' : AnyRun P ops Q S fuel L j a w) : wpAnyH P .any ops (NoPanic Q) S (fuel + 1) L a w :=
  wpAnyH_all hr (by simp) fun k hk => by
    have e : k = i ∨ k = j := by simpa using hk
    rcases e with e | e
    · rw [e]; exact h
    · rw [e]; exact h'
theorem any_three {fuel : Nat} {L : Array Bool} {a : Act} {w : World} (i j k : Nat) (hr : Region.ready .any ops L = [i, j, k]) (h : AnyRun P ops Q S fuel L i a w) (h' : AnyRun P ops Q S fuel L j a w) (h'' : AnyRun P ops Q S fuel L k a w) : wpAnyH P .any ops (NoPanic Q) S (fuel + 1) L a w :=
  wpAnyH_all hr (by simp) fun l hl => by
    have e : l = i ∨ l = j ∨ l = k := by simpa using hl
    rcases e with e | e | e
    · rw [e]; exact h
    · rw [e]; exact h'
    · rw [e]; exact h''
theorem any_run {fuel : Nat} {L : Array Bool} {i : Nat} {a : Act} {w : World} (o : Oper) (ho : nth ops.toList i = some o)
    (h : ∀ K : Act → World → Prop, Shut (∀ a w, S w → wpAnyH P .any ops (NoPanic Q) S fuel (L.setIfInBounds i true) a w → K a w) → if Region.wanted o (yielded ops a.tmps) = true then Oper.wp P o a w K (NoPanic Q) else K (a.put o.dst undef) w) : AnyRun P ops Q S fuel L i a w :=
  wpOp_step (nth_at ho) (fun K' hK => h K' (fun a w hS hW => hK a w ⟨hS, hW⟩))
theorem any_alloc_has {fuel : Nat} {L : Array Bool} {i : Nat} {a : Act} {w : World} (o : Oper) (ho : nth ops.toList i = some o) (hw : Region.wanted o (yielded ops a.tmps) = true) (t : TypeId) (hop : o.op = .alloc t) (c : Array Value) (hz : (P.info? t).map (·.zero) = some (some (.agg c)))
    (hS : S (w.alloc (.cells c t))) (h : wpAnyH P .any ops (NoPanic Q) S fuel (L.setIfInBounds i true) (a.put o.dst (.pointer (some ⟨w.heap.size, 0, none⟩))) (w.alloc (.cells c t))) : AnyRun P ops Q S fuel L i a w := by
  refine any_run o ho fun K hK => ?_
  rw [if_pos hw]
  cases hq : P.info? t with
  | none => simp [hq] at hz
  | some i =>
    have hz' : i.zero = some (.agg c) := by simpa [hq] using hz
    unfold Oper.wp execOp
    simp [hop, Sem.run_bind, Instr.alloc, zeroValue, typeInfo, hq, hz', newVar, newRow, run_newObj_alloc, Sem.run_pure, Result.andThen_ok, Value.cells]
    exact hK.out _ _ hS h
theorem any_store_has {fuel : Nat} {L : Array Bool} {i : Nat} {a : Act} {w : World} (o : Oper) (ho : nth ops.toList i = some o) (hw : Region.wanted o (yielded ops a.tmps) = true) (ty : TypeId) (x y : Operand) (hop : o.op = .store ty x y) (g : Nat) (hx : a.eval x = .pointer (some ⟨g, 0, none⟩))
    (c : Array Value) (hy : a.eval y = .agg c) (t : TypeId) (old : Array Value) (hi : (P.info? ty).map (·.size) = some c.size) (hs : old.size = c.size) (h1 : c.all (·.oneCell') = true)
    (hg : Has w g t old) (hS : S (w.setRow g c)) (h : wpAnyH P .any ops (NoPanic Q) S fuel (L.setIfInBounds i true) (a.put o.dst undef) (w.setRow g c)) : AnyRun P ops Q S fuel L i a w := by
  refine any_run o ho fun K hK => ?_
  rw [if_pos hw]
  exact wp_store_row ty x y hop g c hx hy t old hg hi hs h1 (hK.out _ _ hS h)
end
end

section
set_option linter.unusedSimpArgs false
set_option linter.unusedVariables false
open Go.RowKit
def PanQ (X : List PanicEntry → World → Prop) (D : List Deferred) (Q : Exit → Act → World → Prop) : Exit → Act → World → Prop
  | .panic c, a, w => X c w ∧ a.defers = D
  | e, a, w => Q e a w
section
variable {P : Program} {ops : Array Oper} {Q : Exit → Act → World → Prop} {S : World → Prop} {X : List PanicEntry → World → Prop} {D : List Deferred}
theorem PanQ.imp (hk : ∀ c a w, X c w → a.defers = D → Q (.panic c) a w) : ∀ (e : Exit) (a : Act) (w : World), PanQ X D Q e a w → Q e a w := fun e a w h => by
  cases e <;> first | exact hk _ _ _ h.1 h.2 | exact h
theorem wp_region_plan_p {id : Nat} {a : Act} {w : World} (S : World → Prop) (p : Plan) (X : List PanicEntry → World → Prop) (hm : P.follows .mixedOrders = true) (hs : Region.noSelect ops = true) (hf : Plan.fits .any ops p (Array.replicate ops.size false) = true) (hn : decide (Plan.fuel p ≤ ops.size) = true)
    (hS : S w.drew) (hk : ∀ c a' w', X c w' → a'.defers = a.defers → Q (.panic c) a' w') (h : wpPlan P ops (PanQ X a.defers Q) S p a w.drew) : (Code.region id ops true).wp P Q a w :=
  Code.wp_mono (PanQ.imp hk) (wp_region_held hm (wpAnyH_of_plan hs (fun d _ _ _ _ h => by cases d <;> exact h) p _ _ a w.drew (of_decide_eq_true hn) hf hS h))
theorem wp_region_plan_pm {id : Nat} {a : Act} {w : World} (S : World → Prop) (p : Plan) (X : List PanicEntry → World → Prop) (F : Act → Act → World → Prop) (hm : P.follows .mixedOrders = true) (hs : Region.noSelect ops = true) (hf : Plan.fits .any ops p (Array.replicate ops.size false) = true) (hn : decide (Plan.fuel p ≤ ops.size) = true)
    (hS : S w.drew) (hk : ∀ c a' w', X c w' → a'.defers = a.defers → Q (.panic c) a' w') (h : wpPlan P ops (PanQ X a.defers (MidQ F a Q)) S p a w.drew) (hk2 : ∀ a' w', F a a' w' → Q .normal a' w') : (Code.region id ops true).wp P Q a w :=
  Code.wp_mono (MidQ.imp hk2) (wp_region_plan_p S p X hm hs hf hn hS hk h)
theorem yields_load_part {o : Oper} {a : Act} (hw : Region.wanted o (yielded ops a.tmps) = true) (ty : TypeId) (x : Operand) (ho : o.op = .load ty x) (g k : Nat) (hx : a.eval x = .pointer (some ⟨g, k, none⟩)) (cs : List Value) (d : TypeDesc)
    (hu : P.underlying ty = some d) (hd : d.isRow = true) (hi : (P.info? ty).map (·.size) = some cs.length) (hc : ∀ W, S W → W.rangeAt g k cs) : YieldsIf P ops S o (.agg cs.toArray) a :=
  .inl ⟨hw, fun W hS => run_load_any ty x ho ⟨g, k, none⟩ hx cs d (fun j v hj => by rw [Addr.add_mid]; exact hc W hS j v hj) hu hd hi⟩
theorem yields_build_l {o : Oper} {a : Act} (hw : Region.wanted o (yielded ops a.tmps) = true) (t : TypeId) (ps : List (Nat × Operand)) (ho : o.op = .build t ps.toArray) (vs : List (Nat × Value)) (hp : ps.map (fun p => (p.1, a.eval p.2)) = vs) (c : Array Value) (hf : P.built t vs = some c) : YieldsIf P ops S o (.agg c) a := by
  have hc : P.built t ((ps.toArray : Array (Nat × Operand)).map fun (i, x) => (i, a.eval x)).toList = some c := by
    rw [List.map_toArray]
    show P.built t (ps.map fun p => (p.1, a.eval p.2)) = _
    rw [hp]
    exact hf
  refine .inl ⟨hw, fun W _ => ?_⟩
  unfold execOp
  simp only [ho, Sem.run_bind, run_build W t _ c hc, Result.andThen_ok]
  rfl
theorem plan_done_p {a : Act} {w : World} (h : Q .normal a w) : wpPlan P ops (PanQ X D Q) S Plan.done a w := h
theorem pan_here {a : Act} {w : World} {c : List PanicEntry} (h : X c w) (hd : a.defers = D) : PanQ X D Q (.panic c) a w := ⟨h, hd⟩
end
end
end Go.Proofs.YtpnpjblohijajabGreat
