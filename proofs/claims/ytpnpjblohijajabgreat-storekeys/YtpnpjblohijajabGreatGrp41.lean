/- StoKeys, StoRec, StoRead, joined. -/
import Derived.Test.YtpnpjblohijajabGreatGrp39
import Derived.Test.YtpnpjblohijajabGreatGrp40
import Derived.Test.YtpnpjblohijajabGreatGrp21
import Derived.Test.YtpnpjblohijajabGreatGrp38
namespace Go.Proofs.YtpnpjblohijajabGreat
section
set_option linter.unusedSimpArgs false
set_option linter.unusedVariables false
set_option maxRecDepth 100000
open Go.RowKit Go.MapKept Go.Maps Go.Sort Go.Shelf

theorem sorts_s (m : Nat) : AnyZ.SortsIn Tryz.prog sortedS_ren Fence.wide m :=
  ⟨fun blk off cap ss W hH hblk hsz => callsIn_wide.2 (AnyM.slices_Sort_string sortS blk off cap ss W hH hblk hsz),
   fun p cap W => callsIn_wide.2 (AnyM.slices_Sort_string_none sortS p cap W)⟩
theorem keysC_call (mb : Nat) (w : World) : Calls Tryz.prog 45 #[.map (some mb)] w fun e w' => e = .returned (.func (.func 77) #[] #[.pointer (some ⟨w.heap.size, 0, none⟩)]) ∧ w' = w.alloc (.cells #[.map (some mb)] 50) :=
  (callsIn_wide (n := 5)).1 (AnyZ.keys_in keysS Fence.wide 5 trivial rfl (some mb) w)
theorem sorted_keys {l : ConL} (h : SortedL l) : (l.map (·.1)).mergeSort (fun x y => decide (x ≤ y)) = l.map (·.1) := by
  refine List.mergeSort_of_pairwise ?_
  rw [List.pairwise_map]
  refine List.Pairwise.imp (fun {p q} hpq => ?_) h
  rw [bb_lt, decide_eq_true_eq] at hpq
  exact decide_eq_true (List.le_of_lt hpq)
theorem sortedC_call (mb : Nat) (l : ConL) (w : World) (h : ContAt w mb l) (hl : l.length ≤ 100000) :
    Calls Tryz.prog 44 #[.func (.func 77) #[] #[.pointer (some ⟨w.heap.size, 0, none⟩)]] (w.alloc (.cells #[.map (some mb)] 50)) fun e w' => ∃ v, e = .returned v ∧
      w'.ownsRow (w.heap.size + 1) 9 1 v l.length (SsV (l.map (·.1))) ∧ Below (w.heap.size + 1) (w.alloc (.cells #[.map (some mb)] 50)) w' := by
  have hlt := h.lt
  have hso := h.sorted
  have hsize : Maps.size (encM l) = l.length := enc_size l
  have hseq : SeqGives Fence.wide 2 Tryz.prog 77 #[.pointer (some ⟨w.heap.size, 0, none⟩)] encStr (fun ss => ss.Perm (strKeys (encM l))) (Maps.size (encM l)) (w.alloc (.cells #[.map (some mb)] 50)) :=
    AnyZ.keys_gives (ρ := keysS_ren) { keysS with } Fence.wide _ trivial rfl (by omega) w.heap.size mb l.length (encM l) _ (by simp) (by simp) (by
      obtain ⟨es, clock, hb, Ft, hs, hD⟩ := h
      exact ⟨es, clock, (Below.heap_alloc _ _ mb hlt).trans hb, Ft, hs, hD⟩)
  have cS := AnyZ.sorted_in sortedS Fence.wide 5 trivial trivial trivial trivial rfl (by omega) (sorts_s _) (enters_of Tryz.func76 (by kernel_rfl) rfl) 77 #[.pointer (some ⟨w.heap.size, 0, none⟩)] trivial (enters_of Tryz.func77 (by kernel_rfl) rfl) _ _ (by rw [hsize]; unfold maxLen; omega) (by rw [hsize]; omega) _ hseq
  change CallsIn _ _ Tryz.prog 44 _ _ _ at cS
  refine ((callsIn_wide (n := 5)).1 cS).mono ?_
  rintro e w' ⟨v, ss, rfl, hS, hrow, hnil, hb⟩
  have hsz : (w.alloc (.cells #[.map (some mb)] 50)).heap.size = w.heap.size + 1 := by simp
  rw [hsz] at hrow hb
  rw [enc_keys] at hS
  have e1 : ss.mergeSort (fun x y => decide (x ≤ y)) = l.map (·.1) := by rw [← sorted_keys hso]; exact mergeSort_of_perm hS
  have e2 : ss.length = l.length := by rw [hS.length_eq, List.length_map]
  rw [e1, e2] at hrow
  refine ⟨v, rfl, ?_, hb⟩
  exact hrow
set_option maxHeartbeats 1000000 in
theorem ckeys_any (b : Nat) (l : ConL) (w : World) (hC : ContAt w b l) (hl : l.length ≤ 100000) :
    Calls Tryz.prog 22 #[.map (some b)] w fun e w' => ∃ ao c, e = .returned (.slice ao l.length c) ∧ Strs w' ao c (l.map (·.1)) ∧ (∀ ad, ao = some ad → w.heap.size ≤ ad.block ∧ ad.block < w'.heap.size) ∧ Below w.heap.size w w' := by
  have h1 := keysC_call b w
  have h2 := sortedC_call b l w hC hl
  replace h1 : Hid _ := h1
  replace h2 : Hid _ := h2
  obtain ⟨L, hL⟩ : ∃ L, l.length = L := ⟨_, rfl⟩
  have hL' : Hid (l.length = L) := hL
  clear hC hL
  go_enter Tryz.func22, Tryz.ntmps22
  go_wp2_with (first
    | (go_at_call 45; refine Calls.mono h1.out ?_; rintro e w2 ⟨rfl, rfl⟩)
    | (go_at_call 44; refine Calls.mono h2.out ?_; rintro e w3 ⟨v, rfl, hown, hb⟩)
    | fail)
  obtain ⟨_, ao, c, rfl, hS, hlt⟩ := strs_own hown
  have hb' : Below w.heap.size w w3 := ((Below.refl _ w).alloc (Nat.le_refl _) (.cells #[.map (some b)] 50)).trans (hb.mono (Nat.le_succ _))
  clear h1 h2 hown hb
  go_wp2
  go_ret
  exact ⟨ao, c, rfl, hS, fun ad had => ⟨by have := (hlt ad had).1; omega, (hlt ad had).2⟩, hb'⟩
theorem skeys_any (s j cb room : Nat) (l : ConL) (w : World) (hX : Has w s 55 (stoC j cb room)) (hC : ContAt w cb l) (hl : l.length ≤ 100000) :
    Calls Tryz.prog 8 #[.pointer (some ⟨s, 0, none⟩)] w fun e w' => ∃ ao c, e = .returned (.slice ao l.length c) ∧ Strs w' ao c (l.map (·.1)) ∧ (∀ ad, ao = some ad → w.heap.size ≤ ad.block ∧ ad.block < w'.heap.size) ∧ Below w.heap.size w w' := by
  have c1 := hX.sto_has
  have hk := ckeys_any cb l w hC hl
  obtain ⟨L, hL⟩ : ∃ L, l.length = L := ⟨_, rfl⟩
  rw [hL] at hk ⊢
  replace hk : Hid _ := hk
  clear hL hl
  go_enter Tryz.func8, Tryz.ntmps8
  go_wp2_with fail
  refine Calls.mono hk.out ?_
  rintro e w3 ⟨ao, c, rfl, hS, hlt, hb⟩
  go_wp2
  go_ret
  exact ⟨ao, c, rfl, hS, hlt, hb⟩
theorem wrs_take (l : ConL) (k : Nat) (h : k < l.length) : (wrsOf l).take (k + 1) = (wrsOf l).take k ++ [⟨l[k].1, l[k].2, false⟩] := by
  unfold wrsOf
  rw [← List.map_take, ← List.map_take, List.take_succ_eq_append_getElem h, List.map_append]
  rfl
set_option maxHeartbeats 4000000 in
theorem writes_any (b : Nat) (l : ConL) (w : World) (hC : ContAt w b l) (hl : l.length ≤ 100000) (he : ∀ p ∈ l, p.1.length ≤ 1000000) :
    Calls Tryz.prog 43 #[.map (some b)] w fun e w' => ∃ ao c, e = .returned (.slice ao l.length c) ∧ Wrs w' ao c (wrsOf l) ∧ (∀ ad, ao = some ad → w.heap.size ≤ ad.block ∧ ad.block < w'.heap.size) ∧ Below w.heap.size w w' := by
  have hk := ckeys_any b l w hC hl
  have hso := hC.sorted
  replace hso : Hid _ := hso
  replace he : Hid _ := he
  have hlw : (wrsOf l).length = l.length := by unfold wrsOf; rw [List.length_map]
  obtain ⟨L, hL⟩ : ∃ L, l.length = L := ⟨_, rfl⟩
  rw [hL] at hk hl hlw ⊢
  have hL' : Hid (l.length = L) := hL
  replace hk : Hid _ := hk
  replace hlw : Hid _ := hlw
  clear hL
  go_enter Tryz.func43, Tryz.ntmps43
  go_wp2_with fail
  refine Calls.mono hk.out ?_
  rintro e w1 ⟨ko, kc, rfl, hS, hlt, hb1⟩
  have hle := hS.le
  have hcap := hS.cap
  rw [List.length_map, hL'.out] at hle
  have hC1 := hC.later hb1
  clear hk hC
  go_wp2
  go_loopw [3, 9] (fun lv iv wr => ∃ k v, k ≤ L ∧ iv = .int .i64 (k : Nat) ∧ lv = v ∧ Hid (wr.ownsRow w1.heap.size 32 3 v k (wrF ((wrsOf l).take k))) ∧ Below w1.heap.size w1 wr) (fun _ iv _ => L - (intOf iv).toNat)
  case atStart => exact ⟨0, _, Nat.zero_le _, rfl, rfl, by show World.ownsRow _ _ _ _ _ _ _; rw [List.take_zero]; exact own_nilWr _ _, Below.refl _ _⟩
  case round =>
    obtain ⟨k, v, hk, rfl, hv, hown, hb⟩ := hrel
    obtain rfl := hv.symm
    by_cases hlt2 : k < L
    · have hkl : k < l.length := by rw [hL'.out]; exact hlt2
      have hltI : (k : Int) < (L : Int) := by omega
      cases ko with
      | none => have := hS.nil rfl; omega
      | some kd =>
        have hck := (hS.later hb).cell kd rfl k (by rw [List.length_map]; exact hkl)
        rw [List.getElem_map] at hck
        have hCr := hC1.later hb
        have hst := wrs_take l k hkl
        have hgm := get_mem hso.out (show (l[k].1, l[k].2) ∈ l from List.getElem_mem hkl)
        have hkk := he.out _ (List.getElem_mem hkl)
        obtain ⟨⟨q, u⟩, hx⟩ : ∃ x, l[k] = x := ⟨_, rfl⟩
        rw [hx] at hck hst hgm hkk
        replace hck : wr.cell? (kd.add k) = some (.string (mkS q)) := hck
        replace hgm : Hid (getK l q = some u) := hgm
        replace hkk : q.length ≤ 1000000 := hkk
        replace hst : Hid ((wrsOf l).take (k + 1) = (wrsOf l).take k ++ [⟨q, u, false⟩]) := hst
        obtain ⟨m, hm⟩ : ∃ m, (wrsOf l).take k = m := ⟨_, rfl⟩
        have hml : m.length = k := by rw [← hm, List.length_take, hlw.out]; omega
        rw [hm] at hown hst
        have hml' : Hid (m.length = k) := hml
        obtain ⟨w2, hw2, hW2, hb2⟩ := wr_w1 wr ⟨q, u, false⟩
        have hown2 : Hid (w2.ownsRow w1.heap.size 32 3 v m.length (wrF m)) := by rw [hml]; exact wrs_keptW hown.out hb2
        have hb3 := hb.trans (hb2.mono hb.size)
        have hsz2 := hb3.size
        have hfld : ∀ w, (Instr.field 53 (.agg #[.string (mkS u)]) 0).run Tryz.prog w = .ok (.string (mkS u)) w := fun w => by kernel_rfl
        have hv1 : Hid ((getK l q).getD [] = u) := by show _ = _; rw [hgm.out]; rfl
        clear hx hkl hm hown hb2 hgm hml hb
        go_wp2_with (first
          | (refine wpList_lookC1 (by rfl) _ _ rfl rfl q rfl hCr (by unfold maxLen; omega) u hv1.out ?_)
          | (refine build_wr2 q u (by rfl) _ _ rfl rfl rfl ?_)
          | (refine wpList_slice_wr (by rfl) _ rfl ⟨q, u, false⟩ rfl ?_; rw [hw2]; clear hw2)
          | (refine wpList_appendWr (by rfl) _ _ rfl w1.heap.size v m [⟨q, u, false⟩] rfl hown2.out (some ⟨wr.heap.size, 0, none⟩) 1 1 rfl rfl hW2 ?hl hsz2 ?_; (case hl => rw [hml'.out]; simp; omega); intro v' w3 hown3 hq3 hkp3; clear hkp3)
          | fail)
        have hown4 : Hid (w3.ownsRow w1.heap.size 32 3 v' (k + 1) (wrF ((wrsOf l).take (k + 1)))) := by
          rw [hst.out]
          have := hown3
          rw [List.length_append, hml'.out] at this
          exact this
        have hb4 : Go.RowKit.Below w1.heap.size w1 w3 := hb3.trans hq3
        clear hown3 hq3 hb3 hW2 hCr hck hst hown2
        go_roundw
        case rel => exact ⟨k + 1, v', by omega, by go_num, rfl, hown4, hb4⟩
        case measure => simp [intOf]; omega
    · have hkL : k = L := by omega
      subst hkL
      have hown2 := hown.out
      rw [← hlw.out, List.take_length] at hown2
      obtain ⟨_, ao, c, rfl, hW, hlt3⟩ := wrs_own hown2
      rw [hlw.out]
      have hb2 := hb1.trans (hb.mono hb1.size)
      have hlt4 : Hid (∀ ad, ao = some ad → w.heap.size ≤ ad.block ∧ ad.block < wr.heap.size) := fun ad had => by
        have := hlt3 ad had
        have := hb1.size
        exact ⟨by omega, by omega⟩
      replace hW : Hid _ := hW
      clear hown hown2 hlt3 hb hb1 hS hC1 hlt
      go_wp2
      go_ret
      exact ⟨ao, c, rfl, hW.out, hlt4.out, hb2⟩
end

section
set_option linter.unusedSimpArgs false
set_option linter.unusedVariables false
set_option maxRecDepth 100000
open Go.RowKit Go.MapKept

theorem mark_put (d : Bool) : putB (markN d) 1 = [markOf d] := by cases d <;> decide
theorem rec_step (t : List WrV) (k : Nat) (h : k < t.length) : recM (t.take (k + 1)) = recM (t.take k) ++ wrB t[k] := by
  rw [List.take_succ_eq_append_getElem h, recM_app]
  congr 1
  show wrB t[k] ++ recM [] = _
  exact List.append_nil _
theorem rec_le (t : List WrV) (k : Nat) : (recM (t.take k)).length ≤ (recM t).length := by
  have : recM t = recM (t.take k) ++ recM (t.drop k) := by rw [← recM_app, List.take_append_drop]
  rw [this, List.length_append]
  omega
theorem wpList_appB3 (w : World) {ops : Array Oper} {rest : List Oper} {o : Oper} {a : Act} {Q : Exit → Act → World → Prop} (hgd : o.guard = none) (s x : Operand)
    (ho : o.op = Op.call { callee := Callee.builtin Builtin.append, args := #[s, x], argTypes := #[60, 60] })
    (base : Nat) (v : Value) (n : Nat) (xs : List UInt8) (hs : a.eval s = v) (ad : Addr) (k c : Nat) (ys : List UInt8) (hx : a.eval x = .slice (some ad) k c) (hv : w.ownsRow base 5 1 v n (Bs xs)) (h : By w (some ad) c ys) (hk : k = ys.length) (hl : n + k ≤ 1000000000) (hbase : base ≤ w.heap.size)
    (hK : ∀ ao' c' w', w'.ownsRow base 5 1 (.slice ao' (n + k) c') (n + k) (Bs (xs ++ ys)) → Below base w w' → (∀ g t C, t ≠ 5 → Has w g t C → Has w' g t C) → wpList Tryz.prog ops Q rest (a.put o.dst (.slice ao' (n + k) c')) w') :
    wpList Tryz.prog ops Q (o :: rest) a w := by
  refine wpList_plain hgd fun K hK' => ?_
  obtain ⟨v', w', hr, hown, hgr⟩ := run_appB w o.type base v n xs hv ad k c ys h hk hl hbase
  obtain ⟨_, ao', c', rfl, hB⟩ := own_by hown
  have hb : Below base w w' := (Below.refl _ _).grown hgr hbase (fun q hq => (hv.lt q hq).1)
  unfold Oper.wp
  simp [execOp, ho, resolve, invoke, builtin, hs, hx, hr, Result.andThen]
  refine hK' _ _ (hK ao' c' w' hown hb fun g t C ht hg => ?_)
  have hlt := hg.lt
  unfold Has at *
  rw [hgr.block g hlt fun e => ?_]
  · exact hg
  · rcases hv.2 with ⟨hv0, _⟩ | ⟨g', cap, cur, hv1, _, hc, _⟩
    · rw [hv0] at e; cases e
    · rw [hv1] at e
      have e2 : g = g' := by simpa [Value.ownBlock] using e
      rw [e2, hc] at hg
      injection hg with hg
      injection hg with _ hg
      exact ht hg.symm
set_option maxHeartbeats 4000000 in
theorem recordOf_any (ao : Option Addr) (c : Nat) (t : List WrV) (w : World) (h : Wrs w ao c t) (hs : (recM t).length ≤ 1000000) (he : ∀ x ∈ t, x.key.length ≤ 60000 ∧ x.bs.length ≤ 60000) :
    Calls Tryz.prog 41 #[.slice ao t.length c] w fun e w' => e = .returned (strV (recM t)) ∧ Below w.heap.size w w' := by
  have hle := wrs_le h
  have hcap := h.cap
  obtain ⟨L, hL⟩ : ∃ L, t.length = L := ⟨_, rfl⟩
  rw [hL] at hle ⊢
  replace hL : Hid _ := hL
  replace hs : Hid _ := hs
  replace he : Hid _ := he
  go_enter Tryz.func41, Tryz.ntmps41
  go_wp2
  go_loopw [3, 8] (fun bv iv wr => ∃ k bo bc, k ≤ L ∧ iv = .int .i64 (k : Nat) ∧ bv = .slice bo (recM (t.take k)).length bc ∧ Hid (wr.ownsRow w.heap.size 5 1 (.slice bo (recM (t.take k)).length bc) (recM (t.take k)).length (Bs (recM (t.take k)))) ∧ Below w.heap.size w wr) (fun _ iv _ => L - (intOf iv).toNat)
  case atStart => exact ⟨0, none, 0, Nat.zero_le _, rfl, rfl, own_nil _ _, Below.refl _ _⟩
  case round =>
    obtain ⟨k, bo, bc, hk, rfl, rfl, hown, hb⟩ := hrel
    by_cases hlt2 : k < L
    · have hkl : k < t.length := by rw [hL.out]; exact hlt2
      have hltI : (k : Int) < (L : Int) := by omega
      cases ao with
      | none => have := h.nil rfl; omega
      | some ad =>
        have hc := wr_at (h.later hb) k hkl
        have hst : Hid (recM (t.take (k + 1)) = recM (t.take k) ++ wrB t[k]) := rec_step t k hkl
        have hlen := rec_le t (k + 1)
        have hx := he.out t[k] (List.getElem_mem hkl)
        obtain ⟨x, hxx⟩ : ∃ x, t[k] = x := ⟨_, rfl⟩
        rw [hxx] at hc hst hx
        rw [hst.out, List.length_append, wrB_length] at hlen
        obtain ⟨P, hP⟩ : ∃ P, recM (t.take k) = P := ⟨_, rfl⟩
        rw [hP] at hst hown hlen ⊢
        obtain ⟨pl, hpl⟩ : ∃ n, P.length = n := ⟨_, rfl⟩
        rw [hpl] at hown hlen ⊢
        obtain ⟨w2, hw2, hX, hb2⟩ := new_var wr 32 (wrC wr0) (wrC x)
        have hb3 := hb.trans (hb2.mono hb.size)
        have hown2 : Hid _ := own_kept hown.out hb2
        have c0 : w2.cell? ⟨wr.heap.size, 0, none⟩ = some (.string (mkS x.key)) := hX.wr_key
        have ht := text_any none 0 0 [] (mkS x.key) w2 (By.nothing _) rfl (by decide) (by rw [mkS_size]; omega)
        rw [txt_rec, List.nil_append, mkS_size] at ht
        obtain ⟨kl, hkk⟩ : ∃ n, x.key.length = n := ⟨_, rfl⟩
        obtain ⟨bl, hbk⟩ : ∃ n, x.bs.length = n := ⟨_, rfl⟩
        rw [hkk] at ht
        rw [hkk, hbk] at hlen hx
        have hlen2 : pl + (kl + bl + 5) ≤ 1000000 := by have := hs.out; omega
        replace ht : Hid _ := ht
        have hkk' : Hid (x.key.length = kl) := hkk
        have hbk' : Hid (x.bs.length = bl) := hbk
        have hpl' : Hid (P.length = pl) := hpl
        have hsw : w.heap.size ≤ w2.heap.size := hb3.size
        clear hxx hkl hP hpl hown hb hb2 hkk hbk hlen
        go_wp2_with (first
          | (refine load_wr_at x (by rfl) _ rfl (ad.add (k * 3)) rfl hc ?_)
          | (refine alloc_wr (by rfl) rfl ?_)
          | (refine store_wr x wr0 (by rfl) _ _ rfl wr.heap.size rfl rfl (Has.new _ _ _) ?_; rw [hw2]; clear hw2)
          | fail)
        refine Calls.mono ht.out ?_
        rintro e w3 ⟨g, c2, rfl, hB3, hq3⟩
        have hown3 : Hid _ := own_kept hown2.out hq3
        have hX3 := hX.later hq3
        have hb4 := hb3.trans (hq3.mono hsw)
        have hsw4 := hb4.size
        clear ht hown2 hX hb3 hq3 c0 hc
        go_wp2_with (first
          | (refine wpList_appB3 _ rfl _ _ rfl w.heap.size _ pl P rfl ⟨g, 0, none⟩ (kl + 2) c2 (recB x.key) rfl ?ho ?hB ?hk (by omega) ?hl ?_; (case ho => exact hown3.out); (case hB => exact hB3); (case hk => rw [recB_length, hkk'.out]); (case hl => exact hsw4); rintro bo5 bc5 w5 hown5 hbb5 hk5; have hX5 := hk5 _ _ _ (by decide) hX3; clear hk5 hX3)
          | (refine load_wr x (by rfl) _ rfl wr.heap.size rfl hX5 ?_)
          | fail)
        refine (markOf_any x w5).mono ?_
        rintro e w6 ⟨rfl, hq6⟩
        have hb5 := hb4.trans hbb5
        have hb6 := hb5.trans (hq6.mono hb5.size)
        have hown6 : Hid _ := own_kept hown5 hq6
        have hX6 := hX5.later hq6
        have hp := putJ none 0 0 [] (markN x.drop) 1 w6 (By.nothing _) rfl (by decide) (by unfold markN; split <;> decide) (by decide) (by decide)
        rw [mark_put, List.nil_append] at hp
        replace hp : Hid _ := hp
        have hsw6 := hb6.size
        clear hown3 hB3 hb4 hown5 hbb5 hX5 hq6 hb5
        go_wp2_with fail
        refine Calls.mono hp.out ?_
        rintro e w7 ⟨rfl, hB7, -, hq7⟩
        have hown7 : Hid _ := own_kept hown6.out hq7
        have hX7 := hX6.later hq7
        have hb7 := hb6.trans (hq7.mono hsw6)
        have hsw7 := hb7.size
        obtain ⟨g7, hg7⟩ : ∃ n, w6.heap.size = n := ⟨_, rfl⟩
        rw [hg7] at hB7 ⊢
        clear hp hown6 hX6 hb6 hq7 hg7
        have hl7 : Hid ((P ++ recB x.key).length = pl + (kl + 2)) := by show _ = _; rw [List.length_append, recB_length, hpl'.out, hkk'.out]
        have ht8 : ∀ W, Calls Tryz.prog 70 #[.slice none 0 0, .string (mkS x.bs)] W fun e w' => ∃ g c', e = .returned (.slice (some ⟨g, 0, none⟩) (bl + 2) c') ∧ By w' (some ⟨g, 0, none⟩) c' (recB x.bs) ∧ Below W.heap.size W w' := fun W => by
          have ht := text_any none 0 0 [] (mkS x.bs) W (By.nothing _) rfl (by decide) (by rw [mkS_size, hbk'.out]; omega)
          rw [txt_rec, List.nil_append, mkS_size, hbk'.out] at ht
          have e0 : 0 + (bl + 2) = bl + 2 := by omega
          rw [e0] at ht
          exact ht
        replace ht8 : Hid _ := ht8
        go_wp2_with (first
          | (refine wpList_appB3 _ rfl _ _ rfl w.heap.size _ (pl + (kl + 2)) (P ++ recB x.key) rfl ⟨g7, 0, none⟩ 1 1 [markOf x.drop] rfl ?ho ?hB rfl (by omega) ?hl ?_; (case ho => exact hown7.out); (case hB => exact hB7); (case hl => exact hsw7); rintro bo8 bc8 w8 hown8 hbb8 hk8; have hX8 := hk8 _ _ _ (by decide) hX7; clear hk8 hX7; have c1 : w8.cell? ⟨wr.heap.size, 1, none⟩ = some (.string (mkS x.bs)) := hX8.wr_bs)
          | fail)
        refine (ht8.out w8).mono ?_
        rintro e w9 ⟨g9, c9, rfl, hB9, hq9⟩
        have hb8 := hb7.trans hbb8
        have hown9 : Hid _ := own_kept hown8 hq9
        have hb9 := hb8.trans (hq9.mono hb8.size)
        have hsw9 := hb9.size
        clear ht8 hown8 hown7 hB7 hbb8 hX8 c1 hb8 hq9 hb7
        go_wp2_with (first
          | (refine wpList_appB3 _ rfl _ _ rfl w.heap.size _ (pl + (kl + 2) + 1) (P ++ recB x.key ++ [markOf x.drop]) rfl ⟨g9, 0, none⟩ (bl + 2) c9 (recB x.bs) rfl ?ho ?hB ?hk (by omega) ?hl ?_; (case ho => exact hown9.out); (case hB => exact hB9); (case hk => rw [recB_length, hbk'.out]); (case hl => exact hsw9); rintro bo10 bc10 w10 hown10 hbb10 hk10; clear hk10)
          | fail)
        have hb10 := hb9.trans hbb10
        have hfin : Hid (P ++ recB x.key ++ [markOf x.drop] ++ recB x.bs = recM (t.take (k + 1))) := by
          show _ = _
          rw [hst.out]
          unfold wrB
          simp
        rw [hfin.out] at hown10
        have hlen3 : Hid (pl + (kl + 2) + 1 + (bl + 2) = (recM (t.take (k + 1))).length) := by
          show _ = _
          rw [hst.out, List.length_append, wrB_length, hpl'.out, hkk'.out, hbk'.out]
          omega
        have hown11 : Hid _ := hown10
        clear hown9 hB9 hbb10 hown10 hfin hst
        go_roundw
        case rel =>
          rw [hlen3.out] at hown11 ⊢
          exact ⟨k + 1, bo10, bc10, by omega, by go_num, rfl, hown11, hb10⟩
        case measure => simp [intOf]; omega
    · have hkL : k = L := by omega
      subst hkL
      rw [← hL.out, List.take_length] at hown
      rw [← hL.out, List.take_length]
      have hB : By wr bo bc (recM t) := by
        obtain ⟨_, ao', c', hv, hB⟩ := own_by hown.out
        cases hv
        exact hB
      have hstr : (convert 60 9 (.slice bo (recM t).length bc)).run Tryz.prog wr = .ok (strV (recM t)) wr := str_of hB rfl
      obtain ⟨X, hX⟩ : ∃ x, recM t = x := ⟨_, rfl⟩
      rw [hX] at hstr ⊢
      obtain ⟨xl, hxl⟩ : ∃ x, X.length = x := ⟨_, rfl⟩
      rw [hxl] at hstr ⊢
      replace hX : Hid _ := hX
      clear hown hB hxl
      go_wp2
      go_ret
      exact ⟨by rw [hX.out]; rfl, hb⟩
end

section
set_option linter.unusedSimpArgs false
set_option linter.unusedVariables false
set_option maxRecDepth 100000
open Go.RowKit Go.MapKept

theorem ret_has_ttS {P : Program} {a : Act} {w : World} {fn : Func} {R : Ending → World → Prop} {p u v : Tmp} {ty : TypeId} (h : fn.results = #[.cell p ty, .tmp u, .tmp v]) (g : Nat) (hp : a.tmps.getD p undef = .pointer (some ⟨g, 0, none⟩))
    (t : TypeId) (c : Array Value) (d : TypeDesc) (hu : P.underlying ty = some d) (hd : (match d with | .struct _ | .array _ _ => true | _ => false) = true) (hi : (P.info? ty).map (·.size) = some c.size)
    (hg : Has w g t c) (hdf : a.defers = []) (hR : R (.returned (.tuple #[.agg c, a.tmps.getD u undef, a.tmps.getD v undef])) w) : bodyPost P fn R .ret a w := by
  refine bodyPost_ret ?_ hdf hR
  have hp' : a.tmps[p]?.getD undef = .pointer (some ⟨g, 0, none⟩) := by simpa using hp
  simp [results, h, hp', asAddr, Sem.run_bind, run_loadVar_row w g t ty c (0, 0) d hg hu hd hi, Result.andThen]
theorem slice_three (w : World) : (Instr.buildSlice 176 3 #[(0, .int .i64 0), (1, .int .i64 0), (2, .int .i64 0)]).run Tryz.prog w = .ok (.slice (some ⟨w.heap.size, 0, none⟩) 3 3) (w.alloc (.cells #[.int .i64 0, .int .i64 0, .int .i64 0] 25)) := by
  have h : (Instr.buildSlice 176 3 #[(0, .int .i64 0), (1, .int .i64 0), (2, .int .i64 0)]).run Tryz.prog w = ((newRow 25 #[.int .i64 0, .int .i64 0, .int .i64 0]).run Tryz.prog w).andThen (fun a w => .ok (.slice (some a) 3 3) w) := by kernel_rfl
  rw [h]
  simp [newRow, run_newObj_alloc, Sem.run_bind, Sem.run_pure, Result.andThen]
set_option maxHeartbeats 1000000 in
theorem cor_any (g : Nat) (w : World) (h : Has w g 25 #[.int .i64 0, .int .i64 0, .int .i64 0]) : Calls Tryz.prog 115 #[.slice (some ⟨g, 0, none⟩) 3 3] w fun e w' => e = .returned (.int .i64 0) ∧ w' = w := by
  have hc : ∀ k, k < 3 → w.cell? ⟨g, k, none⟩ = some (.int .i64 0) := fun k hk => by
    rw [h.cell]
    match k, hk with
    | 0, _ => rfl
    | 1, _ => rfl
    | 2, _ => rfl
  replace hc : Hid _ := hc
  clear h
  go_enter Tryz.func115, Tryz.ntmps115
  go_wp2
  go_loopw [8] (fun iv wr => ∃ k, k ≤ 3 ∧ iv = .int .i64 (k : Nat) ∧ wr = w) (fun iv _ => 3 - (intOf iv).toNat)
  case atStart => exact ⟨0, by decide, rfl, rfl⟩
  case round =>
    obtain ⟨k, hk, rfl, hw⟩ := hrel
    obtain rfl := hw.symm
    by_cases hlt : k < 3
    · have hltI : (k : Int) < 3 := by omega
      have c0 : w.cell? ⟨g, k, none⟩ = some (.int .i64 0) := hc.out k hlt
      go_wp2
      go_roundw
      case rel => exact ⟨k + 1, by omega, by go_num, trivial⟩
      case measure => simp [intOf]; omega
    · have hk3 : k = 3 := by omega
      subst hk3
      go_wp2
      go_ret
      exact ⟨rfl, rfl⟩
section
variable {ops : Array Oper} {Q : Exit → Act → World → Prop} {S : World → Prop} {i : Nat} {p : Plan} {a : Act} {w : World}
theorem plan_three (o : Oper) (ho : nth ops.toList i = some o) (hw : Region.wanted o (yielded ops a.tmps) = true) (x y z : Operand) (hop : o.op = .buildSlice 176 3 #[(0, x), (1, y), (2, z)]) (hx : a.eval x = .int .i64 0) (hy : a.eval y = .int .i64 0) (hz : a.eval z = .int .i64 0)
    (hS : S (w.alloc (.cells #[.int .i64 0, .int .i64 0, .int .i64 0] 25))) (h : wpPlan Tryz.prog ops Q S p (a.put o.dst (.slice (some ⟨w.heap.size, 0, none⟩) 3 3)) (w.alloc (.cells #[.int .i64 0, .int .i64 0, .int .i64 0] 25))) : wpPlan Tryz.prog ops Q S (Plan.run i p) a w := by
  refine plan_run o ho fun K hK => ?_
  rw [if_pos hw]
  have hr := slice_three w
  have hp : (#[(0, x), (1, y), (2, z)] : Array (Nat × Operand)).map (fun (i, x) => (i, a.eval x)) = #[(0, .int .i64 0), (1, .int .i64 0), (2, .int .i64 0)] := by simp [hx, hy, hz]
  have e : (execOp a.eval o).run Tryz.prog w = .ok (.value (.slice (some ⟨w.heap.size, 0, none⟩) 3 3)) (w.alloc (.cells #[.int .i64 0, .int .i64 0, .int .i64 0] 25)) := by
    unfold execOp
    simp only [hop]
    simp only [hp, Sem.run_bind, hr, Result.andThen_ok, Sem.run_pure]
  unfold Oper.wp
  rw [e]
  exact hK.out _ _ hS h
end
theorem get_mark (d : Bool) : getN [markOf d] = markN d := by cases d <;> decide
open Classical in
set_option maxHeartbeats 4000000 in
theorem firstOf_good (ao : Option Addr) (n c : Nat) (x : WrV) (r : List UInt8) (w : World) (hB : By w ao c (wrB x ++ r)) (hn : n = (wrB x ++ r).length) (hl : n ≤ 1000000) (hx : IsWr x) :
    Calls Tryz.prog 84 #[.slice ao n c] w fun e w' => ∃ g c', e = .returned (.tuple #[.agg (wrC x), .slice (some ⟨g, 0, none⟩) r.length c', .bool true]) ∧ By w' (some ⟨g, 0, none⟩) c' r ∧ w.heap.size ≤ g ∧ Below w.heap.size w w' := by
  obtain ⟨k, b, d⟩ := x
  have hm1 : ((markN d : Nat) : Int) ≤ 1 := by unfold markN; cases d <;> decide
  have hm2 : (((markN d : Nat) : Int) == 1) = d := by unfold markN; cases d <;> rfl
  obtain ⟨mk, hmk⟩ : ∃ m, ((markN d : Nat) : Int) = m := ⟨_, rfl⟩
  rw [hmk] at hm1 hm2
  have hmk' : Hid (((markN d : Nat) : Int) = mk) := hmk
  clear hmk
  have hwl : (wrB ⟨k, b, d⟩).length = k.length + b.length + 5 := wrB_length _
  have hwB : wrB ⟨k, b, d⟩ = recB k ++ (markOf d :: recB b) := rfl
  have hk1 : 1 ≤ k.length := hx.k1
  have hk2 : k.length ≤ 20 := hx.k2
  have hb1 : b.length ≤ 6000 := hx.b
  have hyes : decide (IsWr ⟨k, b, d⟩) = true := decide_eq_true hx
  rw [List.length_append, hwl] at hn
  obtain ⟨w1, hw1, hR, hq1⟩ := one_var w 32 (wrC wr0)
  have hB1 := hB.later hq1
  have hg1 := gett_allJ ao c n (mkS k) (markOf d :: (recB b ++ r)) 20 w1 (by rw [txt_rec]; rw [hwB, List.append_assoc] at hB1; exact hB1) (by rw [mkS_size, List.length_cons, List.length_append, recB_length]; omega) (by omega) (by rw [mkS_size]; omega) (by rw [mkS_size]; omega)
  obtain ⟨rl, hrl⟩ : ∃ n, r.length = n := ⟨_, rfl⟩
  obtain ⟨bl, hbl⟩ : ∃ n, b.length = n := ⟨_, rfl⟩
  have e1 : (markOf d :: (recB b ++ r)).length = bl + rl + 3 := by rw [List.length_cons, List.length_append, recB_length, hbl, hrl]; omega
  rw [e1] at hg1
  rw [hrl]
  replace hg1 : Hid _ := hg1
  have hrl' : Hid (r.length = rl) := hrl
  have hbl' : Hid (b.length = bl) := hbl
  rw [hbl] at hb1 hn
  rw [hrl] at hn
  have hbb : bl + rl ≤ 1000000 := by omega
  replace hyes : Hid _ := hyes
  clear hrl hbl e1 hB hB1 hn
  go_enter Tryz.func84, Tryz.ntmps84
  go_wp2_with (first
    | (refine alloc_wr (by rfl) rfl ?_; rw [hw1]; clear hw1)
    | fail)
  refine Calls.mono hg1.out ?_
  rintro e w2 ⟨g2, c2, rfl, hB2, hlt2, hq2⟩
  have hg2 := get_ok (some ⟨g2, 0, none⟩) (bl + rl + 3) c2 _ 1 w2 hB2 (by rw [List.length_cons, List.length_append, recB_length, hbl'.out, hrl'.out]; omega) (by omega) (by unfold heldI; simp; omega)
  have h1 : (heldI 1).toNat = 1 := by decide
  rw [h1] at hg2
  have e2 : (markOf d :: (recB b ++ r)).take 1 = [markOf d] := rfl
  have e3 : (markOf d :: (recB b ++ r)).drop 1 = recB b ++ r := rfl
  have e4 : bl + rl + 3 - 1 = bl + rl + 2 := by omega
  rw [e2, e3, e4, get_mark, hmk'.out] at hg2
  replace hg2 : Hid _ := hg2
  have hR2 := hR.later hq2
  have hb2 := hq1.trans (hq2.mono hq1.size)
  clear hg1 hR hq1 hq2 hlt2 hB2 h1 e2 e3 e4
  go_wp2_with fail
  refine Calls.mono hg2.out ?_
  rintro e w3 ⟨g3, c3, rfl, hB3, hq3⟩
  have hg3 := gett_allJ (some ⟨g3, 0, none⟩) c3 (bl + rl + 2) (mkS b) r 6000 w3 (by rw [txt_rec]; exact hB3) (by rw [mkS_size, hbl'.out, hrl'.out]; omega) (by omega) (by rw [mkS_size, hbl'.out]; omega) (by rw [mkS_size, hbl'.out]; omega)
  rw [hrl'.out] at hg3
  replace hg3 : Hid _ := hg3
  have hR3 := hR2.later hq3
  have hb3 := hb2.trans (hq3.mono hb2.size)
  clear hg2 hR2 hq3 hb2 hB3
  go_wp2_with fail
  refine Calls.mono hg3.out ?_
  rintro e w4 ⟨g4, c4, rfl, hB4, hlt4, hq4⟩
  have hg4 : g4 ≠ w.heap.size := by have := hR3.lt; omega
  have hgn : Hid (w.heap.size ≤ g4) := by have := hR3.lt; show _ ≤ _; omega
  have hR4 := hR3.later hq4
  have hb4 := hb3.trans (hq4.mono hb3.size)
  clear hg3 hR3 hq4 hb3 hlt4
  obtain ⟨w5, hw5, hV, hq5⟩ := new_var w4 32 (wrC wr0) (wrC ⟨k, b, d⟩)
  have hR5 := hR4.later hq5
  have hB5 := hB4.later hq5
  have hb5 := hb4.trans (hq5.mono hb4.size)
  have hsz4 := hb4.size
  have hRlt := hR4.lt
  clear hR4 hB4 hb4 hq5
  go_wp2_with (first
    | (refine build_wr3 k b d (by rfl) _ _ _ rfl rfl rfl rfl ?_)
    | (refine alloc_wr (by rfl) rfl ?_)
    | (refine store_wr ⟨k, b, d⟩ wr0 (by rfl) _ _ rfl w4.heap.size rfl rfl (Has.new _ _ _) ?_; rw [hw5]; clear hw5)
    | fail)
  have hnR : w4.heap.size ≠ w.heap.size := by omega
  have hiw := fun W => isWrite_any ⟨k, b, d⟩ W (show k.length ≤ 140737488355328 by omega) (show b.length ≤ 140737488355328 by have := hbl'.out; omega)
  rw [hyes.out] at hiw
  have cV : ∀ W, But w.heap.size w5 W → Has W w4.heap.size 32 (wrC ⟨k, b, d⟩) := fun W hS => hS.has hV hnR
  have hS0 : But w.heap.size w5 w5.drew := But.of (Below.refl _ _).drew
  have hR0 := hR5.drew
  replace cV : Hid _ := cV
  replace hiw : Hid _ := hiw
  have hB0 := hB5.later (Below.refl _ _).drew
  go_wp2
  refine wp_region_plan (fun W => But w.heap.size w5 W) (Plan.of [(0, true), (1, true), (2, true), (3, true), (4, true), (5, false), (6, false), (7, true), (8, true), (9, true), (10, true), (11, true), (12, true), (13, true), (14, false), (15, true), (16, false), (17, true), (18, true)] .done) (by kernel_rfl) (by kernel_rfl) (by kernel_rfl) (by kernel_rfl) hS0 ?_
  refine plan_take _ _ rfl (yields_load_has (by rfl) 32 _ rfl w4.heap.size rfl 32 (wrC ⟨k, b, d⟩) _ Tryz.underlying32 rfl (wr_size _) cV.out) ?_
  try simp only [Act.put, List.setIfInBounds_toArray, List.set_cons_zero, List.set_cons_succ]
  iterate 4
    first
      | (refine plan_pass _ rfl (by rfl) ?_)
      | (refine plan_take _ _ rfl (.inl ⟨by rfl, fun W hS => by clear hS; go_simp; try with_reducible rfl⟩) ?_)
    try simp only [Act.put, List.setIfInBounds_toArray, List.set_cons_zero, List.set_cons_succ]
  refine plan_three _ rfl (by rfl) _ _ _ rfl rfl rfl rfl (hS0.later ((Below.refl _ _).alloc (Nat.le_refl _) _)) ?_
  have hE := Has.new w5.drew 25 #[.int .i64 0, .int .i64 0, .int .i64 0]
  have hS6 : But w.heap.size w5 (w5.drew.alloc (.cells #[.int .i64 0, .int .i64 0, .int .i64 0] 25)) := hS0.later ((Below.refl _ _).alloc (Nat.le_refl _) _)
  have hR6 := hR0.alloc (.cells #[.int .i64 0, .int .i64 0, .int .i64 0] 25)
  have hB6 := hB0.later ((Below.refl _ _).alloc (Nat.le_refl _) (.cells #[.int .i64 0, .int .i64 0, .int .i64 0] 25))
  generalize w5.drew.alloc (.cells #[.int .i64 0, .int .i64 0, .int .i64 0] 25) = w6 at *
  try simp only [Act.put, List.setIfInBounds_toArray, List.set_cons_zero, List.set_cons_succ]
  refine plan_run _ rfl (fun K hK => ?_)
  go_simp
  refine (cor_any _ w6 hE).mono ?_
  rintro e w7 ⟨rfl, rfl⟩
  refine hK.out _ _ hS6 ?_
  clear hK K hE hS0 hR0 hB0
  iterate 6
    first
      | (refine plan_pass _ rfl (by rfl) ?_)
      | (refine plan_take _ _ rfl (.inl ⟨by rfl, fun W hS => by clear hS; go_simp; try with_reducible rfl⟩) ?_)
    try simp only [Act.put, List.setIfInBounds_toArray, List.set_cons_zero, List.set_cons_succ]
  refine plan_take _ _ rfl (yields_load_has (by rfl) 32 _ rfl w4.heap.size rfl 32 (wrC ⟨k, b, d⟩) _ Tryz.underlying32 rfl (wr_size _) cV.out) ?_
  try simp only [Act.put, List.setIfInBounds_toArray, List.set_cons_zero, List.set_cons_succ]
  refine plan_run _ rfl (fun K hK => ?_)
  go_simp
  refine (hiw.out _).mono ?_
  rintro e w8 ⟨rfl, hq8⟩
  have hS8 := hS6.later hq8
  have hR8 := hR6.later hq8
  have hB8 := hB6.later hq8
  refine hK.out _ _ hS8 ?_
  clear hK K hS6 hR6 hB6 hq8
  iterate 1
    first
      | (refine plan_pass _ rfl (by rfl) ?_)
      | (refine plan_take _ _ rfl (.inl ⟨by rfl, fun W hS => by clear hS; go_simp; try with_reducible rfl⟩) ?_)
    try simp only [Act.put, List.setIfInBounds_toArray, List.set_cons_zero, List.set_cons_succ]
  obtain ⟨w9, hw9, hR9⟩ : ∃ W, w8.setRow w.heap.size (wrC ⟨k, b, d⟩) = W ∧ Has W w.heap.size 32 (wrC ⟨k, b, d⟩) := ⟨_, rfl, hR8.row _⟩
  have hS9 : But w.heap.size w5 w9 := hS8.trans (by rw [← hw9]; exact ⟨(below_setRow (Below.refl 0 w8) (Nat.zero_le _) _).os, (below_setRow (Below.refl 0 w8) (Nat.zero_le _) _).tape, (below_setRow (Below.refl 0 w8) (Nat.zero_le _) _).output, (below_setRow (Below.refl 0 w8) (Nat.zero_le _) _).size, fun q _ hq => setRow_other w8 w.heap.size q _ hq⟩)
  refine plan_store_has _ rfl (by rfl) 32 _ _ rfl w.heap.size rfl (wrC ⟨k, b, d⟩) rfl 32 (wrC wr0) (wr_size _) rfl (wr_cells1 _) hR8 (by rw [hw9]; exact hS9) ?_
  rw [hw9]
  have hB9 : By w9 (some ⟨g4, 0, none⟩) c4 r := hB8.same (fun ad had => by cases had; rw [← hw9]; exact setRow_other w8 w.heap.size g4 _ hg4)
  try simp only [Act.put, List.setIfInBounds_toArray, List.set_cons_zero, List.set_cons_succ]
  iterate 2
    first
      | (refine plan_pass _ rfl (by rfl) ?_)
      | (refine plan_take _ _ rfl (.inl ⟨by rfl, fun W hS => by clear hS; go_simp; try with_reducible rfl⟩) ?_)
    try simp only [Act.put, List.setIfInBounds_toArray, List.set_cons_zero, List.set_cons_succ]
  refine plan_done ?_
  have hb9 : Below w.heap.size w w9 := hb5.trans (hS9.below (Nat.le_refl _) hb5.size)
  clear hR8 hB8 hS8 hw9 hS9 hb5
  go_wp2
  (try simp only [Exit.inBlock, Exit.then])
  refine ret_has_ttS rfl w.heap.size rfl 32 (wrC ⟨k, b, d⟩) _ Tryz.underlying32 rfl (wr_size _) hR9 rfl ?_
  exact ⟨g4, c4, rfl, hB9, hgn.out, hb9⟩
end
end Go.Proofs.YtpnpjblohijajabGreat
