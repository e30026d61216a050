/- StoCont, StoSize, joined. -/
import Derived.Test.YtpnpjblohijajabGreatGrp38
import Derived.Test.YtpnpjblohijajabGreatGrp26
import Derived.Shelf.SlMaps.Clone
namespace Go.Proofs.YtpnpjblohijajabGreat
section
set_option linter.unusedSimpArgs false
set_option linter.unusedVariables false
set_option maxRecDepth 100000
open Go.RowKit Go.MapKept

section
variable {ops : Array Oper} {Q : Exit → Act → World → Prop} {S : World → Prop} {b : Nat} {l : ConL}
theorem plan_putC {i : Nat} {p : Plan} {a : Act} {w : World} (o : Oper) (ho : nth ops.toList i = some o) (hw : Region.wanted o (yielded ops a.tmps) = true) (m x y : Operand) (hop : o.op = .mapUpdate 50 m x y) (hm : a.eval m = .map (some b)) (k v : List UInt8) (hx : a.eval x = strV k) (hy : a.eval y = cellV v) (h : ContAt w b l) (hk : k.length ≤ maxLen) (hl : l.length ≤ 100000)
    (hK : ∀ w', ContAt w' b (putK l k v) → But b w w' → S w' ∧ wpPlan Tryz.prog ops Q S p (a.put o.dst undef) w') : wpPlan Tryz.prog ops Q S (Plan.run i p) a w := by
  refine plan_run o ho fun K hK' => ?_
  obtain ⟨w', hr, hc, hb⟩ := run_putC h k v hk hl
  rw [if_pos hw]
  unfold Oper.wp execOp
  simp only [hop, hm, hx, hy]
  simp only [Sem.run_bind, hr]
  exact hK'.out _ _ (hK w' hc hb).1 (hK w' hc hb).2
end
theorem cell_built (b : List UInt8) : Tryz.prog.built 53 [(0, strV b)] = some #[strV b] := by kernel_rfl
set_option maxHeartbeats 1000000 in
theorem cput_any (b : Nat) (l : ConL) (x : WrV) (w : World) (hC : ContAt w b l) (hk : x.key.length ≤ 1000000) (hb : x.bs.length ≤ 1000000) (hl : l.length ≤ 100000) :
    Calls Tryz.prog 38 #[.map (some b), .agg (wrC x)] w fun e w' => e = .returned (.tuple #[]) ∧ ContAt w' b (putK l x.key x.bs) ∧ But b w w' := by
  obtain ⟨w1, hw1, hX, hq⟩ := one_var w 32 (wrC x)
  have hC1 := hC.later hq
  have hbw : But b w w1 := But.of hq
  have hkc := sclone_any x.key
  have hbc := sclone_any x.bs
  obtain ⟨k, v, d⟩ := x
  replace hk : k.length ≤ 1000000 := hk
  replace hb : v.length ≤ 1000000 := hb
  have hne : w.heap.size ≠ b := by have := hC.lt; omega
  have c0 : ∀ W, But b w1 W → W.cell? ⟨w.heap.size, 0, none⟩ = some (.string (mkS k)) := fun W hS => (hS.has hX hne).wr_key
  have c1 : ∀ W, But b w1 W → W.cell? ⟨w.heap.size, 1, none⟩ = some (.string (mkS v)) := fun W hS => (hS.has hX hne).wr_bs
  replace hkc : Hid (∀ W, Calls Tryz.prog 65 #[.string (mkS k)] W fun e w' => e = .returned (.string (mkS k)) ∧ Below W.heap.size W w') := fun W => hkc W hk
  replace hbc : Hid (∀ W, Calls Tryz.prog 65 #[.string (mkS v)] W fun e w' => e = .returned (.string (mkS v)) ∧ Below W.heap.size W w') := fun W => hbc W hb
  clear hX hC
  go_enter Tryz.func38, Tryz.ntmps38
  go_wp2_with (first
    | (refine Go.Great.wpList_boxTo rfl 32 _ rfl _ rfl w.heap.size rfl (wrC ⟨k, v, d⟩) rfl ?_; rw [hw1]; clear hw1)
    | fail)
  go_wp2
  have hC2 := hC1.later (Below.refl _ _).drew
  have hS0 : But b w1 w1.drew := But.of (Below.refl _ _).drew
  refine wp_region_plan (fun W => But b w1 W) (Plan.of [(0, true), (1, true), (2, true), (4, true), (5, true), (3, false), (6, false), (7, true), (8, false)] .done) (by kernel_rfl) (by kernel_rfl) (by kernel_rfl) (by kernel_rfl) hS0 ?_
  iterate 2
    first
      | (refine plan_pass _ rfl (by rfl) ?_)
      | (refine plan_take _ _ rfl (.inl ⟨by rfl, fun W hS => by clear hS; go_simp; try with_reducible rfl⟩) ?_)
    try simp only [Act.put, List.setIfInBounds_toArray, List.set_cons_zero, List.set_cons_succ]
  iterate 1
    first
      | (refine plan_pass _ rfl (by rfl) ?_)
      | (refine plan_take _ _ rfl (.inl ⟨by rfl, fun W hS => by have z := c0 W hS; go_simp; try with_reducible rfl⟩) ?_)
    try simp only [Act.put, List.setIfInBounds_toArray, List.set_cons_zero, List.set_cons_succ]
  iterate 1
    first
      | (refine plan_pass _ rfl (by rfl) ?_)
      | (refine plan_take _ _ rfl (.inl ⟨by rfl, fun W hS => by clear hS; go_simp; try with_reducible rfl⟩) ?_)
    try simp only [Act.put, List.setIfInBounds_toArray, List.set_cons_zero, List.set_cons_succ]
  iterate 1
    first
      | (refine plan_pass _ rfl (by rfl) ?_)
      | (refine plan_take _ _ rfl (.inl ⟨by rfl, fun W hS => by have z := c1 W hS; go_simp; try with_reducible rfl⟩) ?_)
    try simp only [Act.put, List.setIfInBounds_toArray, List.set_cons_zero, List.set_cons_succ]
  refine plan_run _ rfl (fun K hK => ?_)
  go_simp
  refine (hkc.out _).mono ?_
  rintro e w3 ⟨rfl, hq3⟩
  have hC3 := hC2.later hq3
  have hS3 : But b w1 w3 := hS0.later hq3
  refine hK.out _ _ hS3 ?_
  clear hK K hC2 hq3
  refine plan_run _ rfl (fun K hK => ?_)
  go_simp
  refine (hbc.out _).mono ?_
  rintro e w4 ⟨rfl, hq4⟩
  have hC4 := hC3.later hq4
  have hS4 : But b w1 w4 := hS3.later hq4
  refine hK.out _ _ hS4 ?_
  clear hK K hC3 hq4 hS3
  refine plan_take _ (cellV v) rfl (yields_build_l (by rfl) 53 [(0, .tmp 10)] rfl [(0, strV v)] rfl _ (cell_built v)) ?_
  try simp only [Act.put, List.setIfInBounds_toArray, List.set_cons_zero, List.set_cons_succ]
  refine plan_putC _ rfl (by rfl) _ _ _ rfl rfl k v rfl rfl hC4 (by unfold maxLen; omega) hl ?_
  intro w5 hC5 hb5
  refine ⟨hS4.trans hb5, ?_⟩
  try simp only [Act.put, List.setIfInBounds_toArray, List.set_cons_zero, List.set_cons_succ]
  refine plan_done ?_
  go_wp2
  go_end0
  exact ⟨rfl, hC5, hbw.trans (hS4.trans hb5)⟩
set_option maxHeartbeats 1000000 in
theorem cdrop_any (b : Nat) (l : ConL) (x : WrV) (w : World) (hC : ContAt w b l) (hk : x.key.length ≤ 1000000) :
    Calls Tryz.prog 39 #[.map (some b), .agg (wrC x)] w fun e w' => e = .returned (.tuple #[]) ∧ ContAt w' b (delK l x.key) ∧ But b w w' := by
  obtain ⟨w1, hw1, hX, hq⟩ := one_var w 32 (wrC x)
  have hC1 := hC.later hq
  have hbw : But b w w1 := But.of hq
  obtain ⟨k, v, d⟩ := x
  replace hk : k.length ≤ 1000000 := hk
  have c0 : w1.cell? ⟨w.heap.size, 0, none⟩ = some (.string (mkS k)) := hX.wr_key
  clear hX hC
  go_enter Tryz.func39, Tryz.ntmps39
  go_wp2_with (first
    | (refine Go.Great.wpList_boxTo rfl 32 _ rfl _ rfl w.heap.size rfl (wrC ⟨k, v, d⟩) rfl ?_; rw [hw1]; clear hw1)
    | (refine wpList_delC (by rfl) _ _ rfl rfl k rfl hC1 (by unfold maxLen; omega) ?_; intro w5 hC5 hb5)
    | fail)
  go_end0
  exact ⟨rfl, hC5, hbw.trans hb5⟩
theorem mclone_any (b : Nat) (l : ConL) (w : World) (hC : ContAt w b l) :
    Calls Tryz.prog 18 #[.map (some b)] w fun e w' => e = .returned (.map (some w.heap.size)) ∧ ContAt w' w.heap.size l ∧ ContAt w' b l ∧ Below w.heap.size w w' := by
  have hq := fun w => run_eql_map_nil_sl (P := Tryz.prog) w 50 _ _ (some b) und_cmap
  have hC0 : Hid _ := hC
  obtain ⟨es, clock, hb, r⟩ := hC
  replace r : Hid _ := r
  go_enter Tryz.func18, Tryz.ntmps18
  go_wp2
  rw [run_callFunc_extern Tryz.func37 (by kernel_rfl) (by kernel_rfl) (by kernel_rfl) (e := Extern.MapsClone.clone) (by kernel_rfl), run_maps_clone_sl w 50 hb]
  simp only [Result.andThen]
  rw [Oper.upon_value]
  go_wp2
  rw [run_typeAssert_map_sl _ 50 20 _ _ _ und_cmap]
  simp only [Result.andThen]
  rw [Oper.upon_value]
  go_wp2
  go_ret
  exact ⟨rfl, ⟨es, clock, (heap_alloc w _).1, r.out⟩, ContAt.later (w := w) (b := b) (l := l) hC0.out ((Below.refl _ _).alloc (Nat.le_refl _) _), (Below.refl _ _).alloc (Nat.le_refl _) _⟩
set_option maxHeartbeats 4000000 in
theorem cdo_any (b : Nat) (l : ConL) (ao : Option Addr) (c : Nat) (t : List WrV) (w : World) (hC : ContAt w b l) (h : Wrs w ao c t) (hne : ∀ ad, ao = some ad → ad.block < w.heap.size ∧ ad.block ≠ b) (he : ∀ x ∈ t, x.key.length ≤ 1000000 ∧ x.bs.length ≤ 1000000) (hl : l.length + t.length ≤ 100000) :
    Calls Tryz.prog 19 #[.map (some b), .slice ao t.length c] w fun e w' => e = .returned (.tuple #[]) ∧ ContAt w' b (doL l t) ∧ But b w w' := by
  have hmf : ∀ (fn : Fn) (first cap : Array Value) (w : World), (Instr.makeFunc fn first cap).run Tryz.prog w = .ok (.func fn first cap) w := fun _ _ _ _ => rfl
  have hle := wrs_le h
  have hcap := h.cap
  have hlb := hC.lt
  replace he : Hid _ := he
  obtain ⟨L, hL⟩ : ∃ L, t.length = L := ⟨_, rfl⟩
  rw [hL] at hle hl ⊢
  replace hL : Hid _ := hL
  go_enter Tryz.func19, Tryz.ntmps19
  go_wp2
  go_loopw [9] (fun iv wr => ∃ k, k ≤ L ∧ iv = .int .i64 (k : Nat) ∧ ContAt wr b (doL l (t.take k)) ∧ But b w wr) (fun iv _ => L - (intOf iv).toNat)
  case atStart => exact ⟨0, Nat.zero_le _, rfl, by rw [List.take_zero]; exact hC, But.of (Below.refl _ _)⟩
  case round =>
    clear hC
    obtain ⟨k, hk, rfl, hC, hb⟩ := hrel
    by_cases hlt : k < L
    · have hkl : k < t.length := by rw [hL.out]; exact hlt
      have hltI : (k : Int) < (L : Int) := by omega
      cases ao with
      | none => have := h.nil rfl; omega
      | some ad =>
        have had := hne ad rfl
        have hc0 : ∀ j v, (wrC t[k]).toList[j]? = some v → wr.cell? ((ad.add (k * 3)).add j) = some v := fun j v hj => by
          have h1 := wr_at h k hkl j v hj
          have h2 : ((ad.add (k * 3)).add j).block = ad.block := by rw [Go.Deep.add_add]; unfold Addr.add; split <;> rfl
          have h3 := hb.block ad.block had.1 had.2
          unfold World.cell? at h1 ⊢
          rw [h2] at h1 ⊢
          rw [h3]
          exact h1
        have hlen := he.out t[k] (List.getElem_mem hkl)
        have hst := doL_snoc l t k hkl
        have hdl := doL_length (t.take k) l
        rw [List.length_take, Nat.min_eq_left (Nat.le_of_lt hkl)] at hdl
        obtain ⟨x, hx⟩ : ∃ x, t[k] = x := ⟨_, rfl⟩
        rw [hx] at hc0 hlen hst
        obtain ⟨m, hm⟩ : ∃ m, doL l (t.take k) = m := ⟨_, rfl⟩
        rw [hm] at hC hst hdl
        obtain ⟨w2, hw2, hX, hb2⟩ := new_var wr 32 (wrC wr0) (wrC x)
        have hC2 := hC.later hb2
        have hB2 : But b w w2 := hb.later hb2
        have cd : w2.cell? ⟨wr.heap.size, 2, none⟩ = some (.bool x.drop) := hX.wr_drop
        have hput := cput_any b m x w2 hC2 hlen.1 hlen.2 (by omega)
        have hdrop := cdrop_any b m x w2 hC2 hlen.1
        replace hput : Hid _ := hput
        replace hdrop : Hid _ := hdrop
        replace hst : Hid _ := hst
        obtain ⟨dd, hdd⟩ : ∃ d, x.drop = d := ⟨_, rfl⟩
        rw [hdd] at cd
        have hdd' : Hid (x.drop = dd) := hdd
        clear hx hkl hm hC hb2 hlen hdl hdd
        cases dd with
        | true =>
          have hfin : Hid (doL l (t.take (k + 1)) = delK m x.key) := by
            show _ = _
            rw [hst.out]
            unfold do1
            rw [hdd'.out, if_pos rfl]
          clear hput hst hdd'
          go_wp2_with (first
            | (refine load_wr_at x (by rfl) _ rfl (ad.add (k * 3)) rfl hc0 ?_)
            | (refine alloc_wr (by rfl) rfl ?_)
            | (refine store_wr x wr0 (by rfl) _ _ rfl wr.heap.size rfl rfl (Has.new _ _ _) ?_; rw [hw2]; clear hw2)
            | (refine load_wr x (by rfl) _ rfl wr.heap.size rfl hX ?_)
            | (go_at_call 39; refine Calls.mono hdrop.out ?_; rintro e w3 ⟨rfl, hC3, hb3⟩)
            | fail)
          rw [← hfin.out] at hC3
          have hB3 := hB2.trans hb3
          clear hdrop hc0 hX hb3 hfin hC2 hB2
          go_roundw
          case rel => exact ⟨k + 1, by omega, by go_num, hC3, hB3⟩
          case measure => simp [intOf]; omega
        | false =>
          have hfin : Hid (doL l (t.take (k + 1)) = putK m x.key x.bs) := by
            show _ = _
            rw [hst.out]
            unfold do1
            rw [hdd'.out, if_neg (by decide)]
          clear hdrop hst hdd'
          go_wp2_with (first
            | (refine load_wr_at x (by rfl) _ rfl (ad.add (k * 3)) rfl hc0 ?_)
            | (refine alloc_wr (by rfl) rfl ?_)
            | (refine store_wr x wr0 (by rfl) _ _ rfl wr.heap.size rfl rfl (Has.new _ _ _) ?_; rw [hw2]; clear hw2)
            | (refine load_wr x (by rfl) _ rfl wr.heap.size rfl hX ?_)
            | (go_at_call 38; refine Calls.mono hput.out ?_; rintro e w3 ⟨rfl, hC3, hb3⟩)
            | fail)
          rw [← hfin.out] at hC3
          have hB3 := hB2.trans hb3
          clear hput hc0 hX hb3 hfin hC2 hB2
          go_roundw
          case rel => exact ⟨k + 1, by omega, by go_num, hC3, hB3⟩
          case measure => simp [intOf]; omega
    · have hkL : k = L := by omega
      subst hkL
      rw [← hL.out, List.take_length] at hC
      go_wp2
      go_end0
      exact ⟨rfl, hC, hb⟩
end

section
set_option linter.unusedSimpArgs false
set_option linter.unusedVariables false
set_option maxRecDepth 100000
open Go.RowKit Go.MapKept

theorem size_mem {l : ConL} {p : List UInt8 × List UInt8} (h : p ∈ l) : p.1.length + p.2.length + 24 ≤ sizeL l := by
  obtain ⟨a, b, rfl⟩ := List.append_of_mem h
  unfold sizeL
  simp
  omega
theorem size_len (l : ConL) : 24 * l.length ≤ sizeL l := by
  induction l with
  | nil => exact Nat.le_refl _
  | cons y r ih =>
    unfold sizeL at *
    rw [List.map_cons, List.sum_cons, List.length_cons]
    omega
theorem RngAt.later {w w' : World} {b r : Nat} {l : ConL} {left : List UInt8 → Bool} {cnt : Nat} (h : RngAt w b r l left cnt) (hb : Below w.heap.size w w') : RngAt w' b r l left cnt := by
  obtain ⟨lf, h1, h2⟩ := h
  exact ⟨lf, h1.kept (row := none) ⟨hb.os, hb.tape, hb.output, hb.size, fun k hk _ => hb.block k hk⟩ (by simp) (by simp), h2⟩
theorem cell_zeroI : (Tryz.prog.info? 53).map (·.zero) = some (some (.agg #[strV []])) := by kernel_rfl
theorem cell_sizeI (b : List UInt8) : (Tryz.prog.info? 53).map (·.size) = some (#[strV b] : Array Value).size := by
  show _ = some 1
  kernel_rfl
set_option maxHeartbeats 4000000 in
theorem csize_any (b : Nat) (l : ConL) (w : World) (hC : ContAt w b l) (hs : sizeL l ≤ 1000000000) :
    Calls Tryz.prog 29 #[.map (some b)] w fun e w' => e = .returned (.int .i64 (sizeL l : Nat)) ∧ Below w.heap.size w w' := by
  have hsl := size_len l
  have hso := hC.sorted
  have hbl := hC.lt
  obtain ⟨L, hL⟩ : ∃ L, l.length = L := ⟨_, rfl⟩
  have hL' : Hid (l.length = L) := hL
  obtain ⟨T, hT⟩ : ∃ T, sizeL l = T := ⟨_, rfl⟩
  have hT' : Hid (sizeL l = T) := hT
  rw [hT] at hs hsl ⊢
  rw [hL] at hsl
  have e1 : IntKind.i64.wrap (24 * (L : Int)) = ((24 * L : Nat) : Int) := by rw [IntKind.wrap_i64]; omega
  have hall : Hid (24 * L + restL l (fun k => (getK l k).isSome) = T) := by
    show _ = _
    have := rest_all hso (fun k => (getK l k).isSome) (fun p hp => by rw [get_mem hso (show (p.1, p.2) ∈ l from hp)]; rfl)
    rw [hL, hT] at this
    omega
  replace hso : Hid _ := hso
  go_enter Tryz.func29, Tryz.ntmps29
  go_wp2_with (first
    | (refine wpList_lenC (by rfl) _ rfl rfl hC L hL'.out ?_)
    | (at_range; refine wpList_rangeC rfl _ rfl rfl hC ?_; intro w2 hR hq)
    | fail)
  clear hC hL hT
  rw [hL'.out] at hR
  go_frame
  go_loopw [3] (fun nv wr => ∃ left cnt q, RngAt wr b w.heap.size l left cnt ∧ nv = .int .i64 (q : Nat) ∧ Hid (q + restL l left = T) ∧ Below w.heap.size w wr) (fun _ wr => wr.rangeLeft b w.heap.size)
  case atStart => exact ⟨_, _, 24 * L, hR, by first | go_num | (rw [e1]; rfl), hall, hq⟩
  case round =>
    clear hR hq hall
    obtain ⟨left, cnt, q, hR, rfl, hsum, hb⟩ := hrel
    have hrl : w.heap.size < wr.heap.size := by
      obtain ⟨lf, hr, _⟩ := hR
      exact hr.lt
    go_wp2_with (first
      | (at_next; refine wpList_nextC rfl _ rfl w.heap.size left cnt rfl hR ?_ ?_)
      | fail)
    · intro hnone
      have hq : Hid (q = T) := by
        have := hsum.out
        rw [rest_none l left hnone] at this
        exact this
      obtain rfl : q = T := hq.out
      clear hnone hsum hq hR
      go_wp2
      go_ret
      exact ⟨rfl, hb⟩
    · intro k v w3 cnt' hm hl hR3 hlt hbut hen
      have hst := rest_strike hso.out left hm hl
      have hsz := size_mem hm
      rw [hT'.out] at hsz
      have hsum3 : Hid (q + (k.length + v.length) + restL l (fun z => left z && !(z == k)) = T) := by
        have := hsum.out
        rw [hst] at this
        show _ = _
        omega
      have hml : w3.rangeLeft b w.heap.size < wr.rangeLeft b w.heap.size := by rw [hR3.left, hR.left]; exact hlt
      have hb3 : Below w.heap.size w w3 := hb.trans (hbut.below (Nat.le_refl _) (Nat.le_of_lt hrl))
      obtain ⟨w4, hw4, hX, hq4⟩ := new_var w3 53 #[strV []] #[strV v]
      have hR4 := hR3.later hq4
      have hml4 : w4.rangeLeft b w.heap.size < wr.rangeLeft b w.heap.size := by rw [hR4.left, ← hR3.left]; exact hml
      have hb4 : Below w.heap.size w w4 := hb3.trans (hq4.mono hb3.size)
      have cx : w4.cell? ⟨w3.heap.size, 0, none⟩ = some (.string (mkS v)) := (hX.cell 0).trans rfl
      have zk := mkS_size k
      have zv := mkS_size v
      obtain ⟨n, hn⟩ : ∃ n, (mkS k).size = n := ⟨_, rfl⟩
      obtain ⟨m, hmm⟩ : ∃ n, (mkS v).size = n := ⟨_, rfl⟩
      have hqT : q + (n + m) ≤ T := by have := hsum3.out; rw [← hn, ← hmm, zk, zv]; omega
      have e2 : IntKind.i64.wrap ((n : Int) + (m : Int)) = (n : Int) + (m : Int) := by rw [IntKind.wrap_i64]; omega
      have e3 : IntKind.i64.wrap ((q : Int) + ((n : Int) + (m : Int))) = ((q + (n + m) : Nat) : Int) := by rw [IntKind.wrap_i64]; omega
      have hsum4 : Hid (q + (n + m) + restL l (fun z => left z && !(z == k)) = T) := by
        have := hsum3.out
        rw [← zk, ← zv, hn, hmm] at this
        exact this
      obtain ⟨left', hleft'⟩ : ∃ f : List UInt8 → Bool, (fun z => left z && !(z == k)) = f := ⟨_, rfl⟩
      rw [hleft'] at hR4 hsum4
      replace hR4 : Hid _ := hR4
      replace hml4 : Hid _ := hml4
      have z1 : Hid _ := cell_sizeI v
      have z2 : Hid ((#[strV v] : Array Value).all (·.oneCell') = true) := by show _ = _; simp [Value.oneCell', strV]
      clear hm hl hR3 hlt hbut hst hsz hsum hsum3 hml hq4 hX hleft' zk zv hqT hb hb3 hR hrl
      go_wp2_with (first
        | (refine wpList_alloc_has (by rfl) 53 rfl #[strV []] cell_zeroI ?_)
        | (refine wpList_store_to (by rfl) 53 _ _ rfl w3.heap.size rfl #[strV v] rfl 53 #[strV []] z1.out rfl z2.out ?hg w4 ?hW ?_; (case hg => exact Has.new _ _ _); (case hW => exact hw4); clear hw4)
        | fail)
      clear hen
      go_roundw
      case rel => exact ⟨left', cnt', q + (n + m), hR4.out, by first | rfl | (rw [← e3]), hsum4, hb4⟩
      case measure => exact hml4.out
section
variable {ops : Array Oper} {Q : Exit → Act → World → Prop} {S : World → Prop} {b : Nat} {l : ConL} {i : Nat} {p : Plan} {a : Act} {w : World}
theorem plan_lenC (o : Oper) (ho : nth ops.toList i = some o) (hw : Region.wanted o (yielded ops a.tmps) = true) (m : Operand) (hop : o.op = Op.call { callee := Callee.builtin Builtin.len, args := #[m], argTypes := #[50] }) (hm : a.eval m = .map (some b)) (h : ContAt w b l) (n : Nat) (hn : l.length = n) (hS : S w)
    (hK : wpPlan Tryz.prog ops Q S p (a.put o.dst (.int .i64 (n : Int))) w) : wpPlan Tryz.prog ops Q S (Plan.run i p) a w := by
  subst hn
  refine plan_run o ho fun K hK' => ?_
  rw [if_pos hw]
  unfold Oper.wp
  simp [execOp, hop, resolve, invoke, builtin, hm, run_lenC h o.type, Result.andThen]
  exact hK'.out _ _ hS hK
theorem plan_skip (o : Oper) (ho : nth ops.toList i = some o) (hw : Region.wanted o (yielded ops a.tmps) = false) (hS : S w) (hK : wpPlan Tryz.prog ops Q S p (a.put o.dst undef) w) : wpPlan Tryz.prog ops Q S (Plan.run i p) a w := by
  refine plan_run o ho fun K hK' => ?_
  rw [if_neg (by rw [hw]; decide)]
  exact hK'.out _ _ hS hK
end
/-- A store's cells. -/
def stoC (j cb room : Nat) : Array Value := #[.pointer (some ⟨j, 0, none⟩), .map (some cb), .int .i64 (room : Int)]
theorem Has.sto_j {w : World} {g j cb room : Nat} {t : TypeId} (k : Has w g t (stoC j cb room)) : w.cell? ⟨g, 0, none⟩ = some (.pointer (some ⟨j, 0, none⟩)) := (k.cell 0).trans rfl
theorem Has.sto_has {w : World} {g j cb room : Nat} {t : TypeId} (k : Has w g t (stoC j cb room)) : w.cell? ⟨g, 1, none⟩ = some (.map (some cb)) := (k.cell 1).trans rfl
theorem Has.sto_room {w : World} {g j cb room : Nat} {t : TypeId} (k : Has w g t (stoC j cb room)) : w.cell? ⟨g, 2, none⟩ = some (.int .i64 (room : Int)) := (k.cell 2).trans rfl
open Classical in
set_option maxHeartbeats 1000000 in
theorem fits_any (s j cb room b : Nat) (l : ConL) (w : World) (hX : Has w s 55 (stoC j cb room)) (hC : ContAt w b l) (hs : sizeL l ≤ 1000000000) :
    Calls Tryz.prog 20 #[.pointer (some ⟨s, 0, none⟩), .map (some b)] w fun e w' => e = .returned (.bool (decide (FitsL room l))) ∧ Below w.heap.size w w' := by
  have c2 : ∀ W, Below w.heap.size w W → W.cell? ⟨s, 2, none⟩ = some (.int .i64 (room : Int)) := fun W hS => (hX.later hS).sto_room
  have hsz := fun W hS => csize_any b l W (ContAt.later hC hS) hs
  have hS0 : Below w.heap.size w w.drew := (Below.refl _ _).drew
  have hC0 := hC.later hS0
  obtain ⟨L, hL⟩ : ∃ L, l.length = L := ⟨_, rfl⟩
  have hL' : Hid (l.length = L) := hL
  obtain ⟨R, hR⟩ : ∃ R, decide (FitsL room l) = R := ⟨_, rfl⟩
  rw [hR]
  replace hR : Hid _ := hR
  obtain ⟨T, hT⟩ : ∃ T, sizeL l = T := ⟨_, rfl⟩
  have hT' : Hid (sizeL l = T) := hT
  rw [hT] at hsz
  replace hsz : Hid _ := hsz
  clear hL hT hX
  by_cases h1 : L ≤ 40
  · have h1' : (L : Int) ≤ 40 := by omega
    by_cases h2 : T ≤ room
    · obtain rfl : R = true := hR.out.symm.trans (decide_eq_true ⟨by rw [hL'.out]; exact h1, by rw [hT'.out]; exact h2⟩)
      have h2' : (T : Int) ≤ (room : Int) := by omega
      go_enter Tryz.func20, Tryz.ntmps20
      go_wp2
      refine wp_region_plan (fun W => Below w.heap.size w W) (Plan.of [(0, true), (1, false), (2, true), (3, true), (4, true), (6, true), (7, true), (8, true), (9, true), (5, false), (10, true), (11, true), (12, true)] .done) (by kernel_rfl) (by kernel_rfl) (by kernel_rfl) (by kernel_rfl) hS0 ?_
      iterate 1
        first
          | (refine plan_pass _ rfl (by rfl) ?_)
          | (refine plan_take _ _ rfl (.inl ⟨by rfl, fun W hS => by clear hS; go_simp; try with_reducible rfl⟩) ?_)
        try simp only [Act.put, List.setIfInBounds_toArray, List.set_cons_zero, List.set_cons_succ]
      refine plan_lenC _ rfl (by rfl) _ rfl rfl hC0 L hL'.out hS0 ?_
      iterate 6
        first
          | (refine plan_pass _ rfl (by rfl) ?_)
          | (refine plan_take _ _ rfl (.inl ⟨by rfl, fun W hS => by clear hS; go_simp; try with_reducible rfl⟩) ?_)
        try simp only [Act.put, List.setIfInBounds_toArray, List.set_cons_zero, List.set_cons_succ]
      iterate 1
        first
          | (refine plan_pass _ rfl (by rfl) ?_)
          | (refine plan_take _ _ rfl (.inl ⟨by rfl, fun W hS => by have z := c2 W hS; go_simp; try with_reducible rfl⟩) ?_)
        try simp only [Act.put, List.setIfInBounds_toArray, List.set_cons_zero, List.set_cons_succ]
      refine plan_run _ rfl (fun K hK => ?_)
      go_simp
      refine (hsz.out _ hS0).mono ?_
      rintro e w3 ⟨rfl, hq3⟩
      have hb3 : Below w.heap.size w w3 := hS0.trans hq3
      refine hK.out _ _ hb3 ?_
      clear hK K hq3
      iterate 3
        first
          | (refine plan_pass _ rfl (by rfl) ?_)
          | (refine plan_take _ _ rfl (.inl ⟨by rfl, fun W hS => by clear hS; go_simp; try with_reducible rfl⟩) ?_)
        try simp only [Act.put, List.setIfInBounds_toArray, List.set_cons_zero, List.set_cons_succ]
      refine plan_done ?_
      go_wp2
      go_ret
      exact ⟨rfl, hb3⟩
    · obtain rfl : R = false := hR.out.symm.trans (decide_eq_false fun h => h2 (by rw [← hT'.out]; exact h.size))
      have h2' : ¬ (T : Int) ≤ (room : Int) := by omega
      go_enter Tryz.func20, Tryz.ntmps20
      go_wp2
      refine wp_region_plan (fun W => Below w.heap.size w W) (Plan.of [(0, true), (1, false), (2, true), (3, true), (4, true), (6, true), (7, true), (8, true), (9, true), (5, false), (10, true), (11, true), (12, true)] .done) (by kernel_rfl) (by kernel_rfl) (by kernel_rfl) (by kernel_rfl) hS0 ?_
      iterate 1
        first
          | (refine plan_pass _ rfl (by rfl) ?_)
          | (refine plan_take _ _ rfl (.inl ⟨by rfl, fun W hS => by clear hS; go_simp; try with_reducible rfl⟩) ?_)
        try simp only [Act.put, List.setIfInBounds_toArray, List.set_cons_zero, List.set_cons_succ]
      refine plan_lenC _ rfl (by rfl) _ rfl rfl hC0 L hL'.out hS0 ?_
      iterate 6
        first
          | (refine plan_pass _ rfl (by rfl) ?_)
          | (refine plan_take _ _ rfl (.inl ⟨by rfl, fun W hS => by clear hS; go_simp; try with_reducible rfl⟩) ?_)
        try simp only [Act.put, List.setIfInBounds_toArray, List.set_cons_zero, List.set_cons_succ]
      iterate 1
        first
          | (refine plan_pass _ rfl (by rfl) ?_)
          | (refine plan_take _ _ rfl (.inl ⟨by rfl, fun W hS => by have z := c2 W hS; go_simp; try with_reducible rfl⟩) ?_)
        try simp only [Act.put, List.setIfInBounds_toArray, List.set_cons_zero, List.set_cons_succ]
      refine plan_run _ rfl (fun K hK => ?_)
      go_simp
      refine (hsz.out _ hS0).mono ?_
      rintro e w3 ⟨rfl, hq3⟩
      have hb3 : Below w.heap.size w w3 := hS0.trans hq3
      refine hK.out _ _ hb3 ?_
      clear hK K hq3
      iterate 3
        first
          | (refine plan_pass _ rfl (by rfl) ?_)
          | (refine plan_take _ _ rfl (.inl ⟨by rfl, fun W hS => by clear hS; go_simp; try with_reducible rfl⟩) ?_)
        try simp only [Act.put, List.setIfInBounds_toArray, List.set_cons_zero, List.set_cons_succ]
      refine plan_done ?_
      go_wp2
      go_ret
      exact ⟨rfl, hb3⟩
  · obtain rfl : R = false := hR.out.symm.trans (decide_eq_false fun h => h1 (by rw [← hL'.out]; exact h.few))
    have h1' : decide ((L : Int) ≤ 40) = false := decide_eq_false (by omega)
    go_enter Tryz.func20, Tryz.ntmps20
    go_wp2
    refine wp_region_plan (fun W => Below w.heap.size w W) (Plan.of [(0, true), (1, false), (2, true), (3, true), (4, true), (6, true), (7, true), (8, true), (9, true), (5, false), (10, true), (11, true), (12, true)] .done) (by kernel_rfl) (by kernel_rfl) (by kernel_rfl) (by kernel_rfl) hS0 ?_
    iterate 1
      first
        | (refine plan_pass _ rfl (by rfl) ?_)
        | (refine plan_take _ _ rfl (.inl ⟨by rfl, fun W hS => by clear hS; go_simp; try with_reducible rfl⟩) ?_)
      try simp only [Act.put, List.setIfInBounds_toArray, List.set_cons_zero, List.set_cons_succ]
    refine plan_lenC _ rfl (by rfl) _ rfl rfl hC0 L hL'.out hS0 ?_
    refine plan_take _ (.bool false) rfl (.inl ⟨by rfl, fun W hS => by clear hS; go_simp⟩) ?_
    try simp only [Act.put, List.setIfInBounds_toArray, List.set_cons_zero, List.set_cons_succ]
    iterate 6
      first
        | (refine plan_pass _ rfl (by rfl) ?_)
        | (refine plan_take _ _ rfl (.inl ⟨by rfl, fun W hS => by clear hS; go_simp; try with_reducible rfl⟩) ?_)
      try simp only [Act.put, List.setIfInBounds_toArray, List.set_cons_zero, List.set_cons_succ]
    refine plan_skip _ rfl (by rfl) hS0 ?_
    iterate 3
      first
        | (refine plan_pass _ rfl (by rfl) ?_)
        | (refine plan_take _ _ rfl (.inl ⟨by rfl, fun W hS => by clear hS; go_simp; try with_reducible rfl⟩) ?_)
      try simp only [Act.put, List.setIfInBounds_toArray, List.set_cons_zero, List.set_cons_succ]
    refine plan_done ?_
    go_wp2
    go_ret
    exact ⟨rfl, hS0⟩
theorem ssize_any (s j cb room : Nat) (l : ConL) (w : World) (hX : Has w s 55 (stoC j cb room)) (hC : ContAt w cb l) (hs : sizeL l ≤ 1000000000) :
    Calls Tryz.prog 12 #[.pointer (some ⟨s, 0, none⟩)] w fun e w' => e = .returned (.int .i64 (sizeL l : Nat)) ∧ Below w.heap.size w w' := by
  have c1 := hX.sto_has
  have hsz := csize_any cb l w hC hs
  replace hsz : Hid _ := hsz
  go_enter Tryz.func12, Tryz.ntmps12
  go_wp2_with fail
  refine Calls.mono hsz.out ?_
  rintro e w3 ⟨rfl, hq3⟩
  go_wp2
  go_ret
  exact ⟨rfl, hq3⟩
set_option maxHeartbeats 1000000 in
theorem sget_any (s j cb room : Nat) (l : ConL) (k : List UInt8) (w : World) (hX : Has w s 55 (stoC j cb room)) (hC : ContAt w cb l) (hk : k.length ≤ 140737488355328) :
    Calls Tryz.prog 9 #[.pointer (some ⟨s, 0, none⟩), strV k] w fun e w' => e = .returned (.tuple #[strV ((getK l k).getD []), .bool (getK l k).isSome]) ∧ Below w.heap.size w w' := by
  have c1 := hX.sto_has
  obtain ⟨v, hv⟩ : ∃ v, (getK l k).getD [] = v := ⟨_, rfl⟩
  obtain ⟨y, hy⟩ : ∃ v, (getK l k).isSome = v := ⟨_, rfl⟩
  rw [hv, hy]
  replace hv : Hid _ := hv
  replace hy : Hid _ := hy
  obtain ⟨w2, hw2, hX2, hq2⟩ := new_var w 53 #[strV []] #[strV v]
  have z1 : Hid _ := cell_sizeI v
  have z2 : Hid ((#[strV v] : Array Value).all (·.oneCell') = true) := by show _ = _; simp [Value.oneCell', strV]
  have cx : w2.cell? ⟨w.heap.size, 0, none⟩ = some (.string (mkS v)) := (hX2.cell 0).trans rfl
  clear hX2
  go_enter Tryz.func9, Tryz.ntmps9
  go_wp2_with (first
    | (refine wpList_lookC (by rfl) _ _ rfl rfl k rfl hC (by unfold maxLen; omega) v y hv.out hy.out ?_)
    | (refine wpList_alloc_has (by rfl) 53 rfl #[strV []] cell_zeroI ?_)
    | (refine wpList_store_to (by rfl) 53 _ _ rfl w.heap.size rfl #[strV v] rfl 53 #[strV []] z1.out rfl z2.out ?hg w2 ?hW ?_; (case hg => exact Has.new _ _ _); (case hW => exact hw2); clear hw2)
    | fail)
  go_ret2
  exact ⟨rfl, hq2⟩
end
end Go.Proofs.YtpnpjblohijajabGreat
