/- StoParse, joined. -/
import Derived.Test.YtpnpjblohijajabGreatGrp41
import Derived.Lib.ConvBytes
namespace Go.Proofs.YtpnpjblohijajabGreat
section
set_option linter.unusedSimpArgs false
set_option linter.unusedVariables false
set_option maxRecDepth 100000
open Go.RowKit Go.MapKept

theorem conv_by (s : List UInt8) (w : World) (h : s.length ≤ 1000000) : ∃ c W, (convert 9 60 (.string (mkS s))).run Tryz.prog w = .ok (.slice (some ⟨w.heap.size, 0, none⟩) s.length c) W ∧ By W (some ⟨w.heap.size, 0, none⟩) c s ∧ Below w.heap.size w W := by
  have hz := mkS_size s
  have hr := Go.Lib.run_convert_string_bytes (P := Tryz.prog) w 9 60 5 (mkS s) Tryz.underlying9 Tryz.underlying60 Tryz.underlying5
  rw [hz] at hr
  have h1 := grownCap_ge w s.length 0 5
  have h2 := grownCap_le_maxLen w s.length 0 5 (by unfold maxLen; omega)
  refine ⟨_, _, hr, ⟨h1, Nat.le_trans h2 (by unfold maxLen; omega), (fun z => by cases z), fun ad had j u hu => ?_⟩, ⟨rfl, rfl, rfl, by rw [Go.Lib.bytesWorld_size]; omega, fun k hk => Go.Lib.bytesWorld_at_old w _ _ k hk⟩⟩
  cases had
  have hj : j < s.length := by
    have := (List.getElem?_eq_some_iff.1 hu).1
    rwa [Bs_length] at this
  rw [Bs_at hj] at hu
  have hc := Go.Lib.bytesWorld_cell w 5 (mkS s) j (by rw [hz]; exact hj)
  rw [Addr.add_mid, Nat.zero_add, hc, ← hu, mkS_data]
  simp [List.getD, hj]
def lenS : Value → Nat
  | .slice _ n _ => n
  | _ => 0
theorem rec_drop (t : List WrV) (k : Nat) (h : k < t.length) : recM (t.drop k) = wrB t[k] ++ recM (t.drop (k + 1)) := by
  rw [List.drop_eq_getElem_cons h, recM_cons]
theorem recdrop_le (t : List WrV) (k : Nat) : (recM (t.drop k)).length ≤ (recM t).length := by
  have : recM t = recM (t.take k) ++ recM (t.drop k) := by rw [← recM_app, List.take_append_drop]
  rw [this, List.length_append]
  omega
theorem wrF_take (t : List WrV) (k : Nat) (h : k < t.length) : t.take (k + 1) = t.take k ++ [t[k]] := List.take_succ_eq_append_getElem h
set_option maxHeartbeats 4000000 in
theorem writesOf_good (t : List WrV) (w : World) (hx : ∀ x ∈ t, IsWr x) (hlen : (recM t).length ≤ 900000) :
    Calls Tryz.prog 52 #[strV (recM t)] w fun e w' => ∃ ao c, e = .returned (.tuple #[.slice ao t.length c, .bool true]) ∧ Wrs w' ao c t ∧ (∀ ad, ao = some ad → w.heap.size ≤ ad.block ∧ ad.block < w'.heap.size) ∧ Below w.heap.size w w' := by
  obtain ⟨c1, w1, hcv, hB1, hq1⟩ := conv_by (recM t) w (by omega)
  replace hx : Hid _ := hx
  have hd0 : recM (t.drop 0) = recM t := by rw [List.drop_zero]
  rw [← hd0] at hB1
  replace hcv : (convert 9 60 (.string (mkS (recM t)))).run Tryz.prog w = .ok (.slice (some ⟨w.heap.size, 0, none⟩) (recM (t.drop 0)).length c1) w1 := by rw [hd0]; exact hcv
  obtain ⟨L, hL⟩ : ∃ L, t.length = L := ⟨_, rfl⟩
  rw [hL]
  replace hL : Hid _ := hL
  obtain ⟨n0, hn0⟩ : ∃ n, (recM (t.drop 0)).length = n := ⟨_, rfl⟩
  rw [hn0] at hcv
  have hn0' : Hid ((recM (t.drop 0)).length = n0) := hn0
  obtain ⟨X, hX⟩ : ∃ X, recM t = X := ⟨_, rfl⟩
  rw [hX] at hcv hlen ⊢
  have hX' : Hid (recM t = X) := hX
  replace hlen : Hid _ := hlen
  clear hd0 hn0 hX
  unfold strV
  go_enter Tryz.func52, Tryz.ntmps52
  go_wp2
  clear hcv
  go_loopw [4, 5] (fun lv rv wr => ∃ k v ro rn rc, k ≤ L ∧ lv = v ∧ rv = .slice (some ⟨ro, 0, none⟩) rn rc ∧ Hid ((recM (t.drop k)).length = rn) ∧ By wr (some ⟨ro, 0, none⟩) rc (recM (t.drop k)) ∧ Hid (wr.ownsRow w.heap.size 32 3 v k (wrF (t.take k))) ∧ Below w.heap.size w wr) (fun _ rv _ => lenS rv)
  case atStart => exact ⟨0, _, w.heap.size, n0, c1, Nat.zero_le _, rfl, rfl, hn0', hB1, by show World.ownsRow _ _ _ _ _ _ _; rw [List.take_zero]; exact own_nilWr _ _, hq1⟩
  case round =>
    clear hB1 hq1
    obtain ⟨k, v, ro, rn, rc, hk, hv, rfl, hrn, hB, hown, hb⟩ := hrel
    obtain rfl := hv.symm
    by_cases hlt : k < L
    · have hkl : k < t.length := by rw [hL.out]; exact hlt
      have hst := rec_drop t k hkl
      have hle := recdrop_le t k
      rw [hX'.out, hrn.out] at hle
      have hrn2 := hrn.out
      rw [hst, List.length_append, wrB_length] at hrn2
      have hpos : 0 < rn := by omega
      have hposI : (0 : Int) < (rn : Int) := by omega
      rw [hst] at hB
      have hw := hx.out _ (List.getElem_mem hkl)
      have hf := firstOf_good (some ⟨ro, 0, none⟩) rn rc t[k] (recM (t.drop (k + 1))) wr hB (by rw [← hst]; exact hrn.out.symm) (by have := hlen.out; omega) hw
      have htk := wrF_take t k hkl
      obtain ⟨x, hxx⟩ : ∃ x, t[k] = x := ⟨_, rfl⟩
      rw [hxx] at hf htk hrn2
      obtain ⟨rm, hrm⟩ : ∃ n, (recM (t.drop (k + 1))).length = n := ⟨_, rfl⟩
      rw [hrm] at hf hrn2
      have hrm' : Hid ((recM (t.drop (k + 1))).length = rm) := hrm
      obtain ⟨m, hm⟩ : ∃ m, t.take k = m := ⟨_, rfl⟩
      have hml : m.length = k := by rw [← hm, List.length_take]; omega
      rw [hm] at hown htk
      have hml' : Hid (m.length = k) := hml
      have hsw := hb.size
      have hvl : Hid (∀ q, v.ownBlock = some q → q < wr.heap.size) := fun q hq => (hown.out.lt q hq).2
      have hlesm : Hid (rm < rn) := by show _ < _; omega
      replace hf : Hid _ := hf
      replace htk : Hid _ := htk
      have hLb : Hid (k < 200000) := by
        show _ < _
        have h1 := hlen.out
        have h2 : 5 * (t.take k).length ≤ (recM t).length := by
          have h3 : ∀ l : List WrV, 5 * l.length ≤ (recM l).length := by
            intro l
            induction l with
            | nil => exact Nat.le_refl _
            | cons y r ih => rw [recM_cons, List.length_append, wrB_length, List.length_cons]; omega
          exact Nat.le_trans (h3 _) (rec_le t k)
        rw [hX'.out, List.length_take] at h2
        omega
      clear hkl hst hle hrn2 hxx hrm hm hw hB hrn
      go_wp2_with fail
      refine Calls.mono hf.out ?_
      rintro e w2 ⟨g2, c2, rfl, hB2, hg2, hq2⟩
      have hown2 : Hid _ := wrs_keptW hown.out hq2
      have hb2 := hb.trans (hq2.mono hsw)
      obtain ⟨w3, hw3, hV, hq3⟩ := new_var w2 32 (wrC wr0) (wrC x)
      have hown3 : Hid _ := wrs_keptW hown2.out hq3
      have hb3 := hb2.trans (hq3.mono hb2.size)
      have hB3 := hB2.later hq3
      obtain ⟨w4, hw4, hW4, hq4⟩ := wr_w1 w3 x
      have hown4 : Hid (w4.ownsRow w.heap.size 32 3 v m.length (wrF m)) := by rw [hml]; exact wrs_keptW hown3.out hq4
      have hb4 := hb3.trans (hq4.mono hb3.size)
      have hB4 := hB3.later hq4
      have hsw4 := hb4.size
      clear hf hown hown2 hown3 hq2 hb hb2 hq3 hb3 hB2 hB3 hq4 hml
      go_wp2_with (first
        | (refine alloc_wr (by rfl) rfl ?_)
        | (refine store_wr x wr0 (by rfl) _ _ rfl w2.heap.size rfl rfl (Has.new _ _ _) ?_; rw [hw3]; clear hw3)
        | (refine load_wr x (by rfl) _ rfl w2.heap.size rfl hV ?_)
        | (refine wpList_slice_wr (by rfl) _ rfl x rfl ?_; rw [hw4]; clear hw4)
        | (refine wpList_appendWr (by rfl) _ _ rfl w.heap.size v m [x] rfl hown4.out (some ⟨w3.heap.size, 0, none⟩) 1 1 rfl rfl hW4 ?hl hsw4 ?_; (case hl => rw [hml'.out]; have := hLb.out; simp; omega); intro v' w5 hown5 hq5 hkp5)
        | fail)
      have hB5 : By w5 (some ⟨g2, 0, none⟩) c2 (recM (t.drop (k + 1))) := by
        refine hB4.sameN fun hne ad had => ?_
        cases had
        have hlt0 : g2 < w4.heap.size := World.block_lt_of_cell? w4 _ (hB4.cell 0 (List.length_pos_iff.2 hne))
        exact hkp5 g2 hlt0 (fun e => by have := hvl.out _ e; omega)
      have hown6 : Hid (w5.ownsRow w.heap.size 32 3 v' (k + 1) (wrF (t.take (k + 1)))) := by
        rw [htk.out]
        have := hown5
        rw [List.length_append, hml'.out] at this
        exact this
      have hb5 := hb4.trans hq5
      clear hB4 hown5 hkp5 hq5 hb4 hown4 htk hW4 hV hvl
      go_roundw
      case rel => exact ⟨k + 1, v', g2, rm, c2, by omega, rfl, rfl, hrm'.out, hB5, hown6, hb5⟩
      case measure => exact hlesm.out
    · have hkL : k = L := by omega
      subst hkL
      have h0 : rn = 0 := by
        rw [← hrn.out, ← hL.out, List.drop_length]
        rfl
      subst h0
      have hown2 := hown.out
      rw [← hL.out, List.take_length] at hown2
      obtain ⟨_, ao, c, rfl, hW, hlt3⟩ := wrs_own hown2
      rw [hL.out]
      replace hW : Hid _ := hW
      replace hlt3 : Hid _ := hlt3
      clear hown hown2 hB hrn
      go_wp2
      go_ret2
      exact ⟨ao, c, rfl, hW.out, hlt3.out, hb⟩
end
end Go.Proofs.YtpnpjblohijajabGreat
