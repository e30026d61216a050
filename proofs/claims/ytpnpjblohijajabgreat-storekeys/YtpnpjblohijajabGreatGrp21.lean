/- JnlRow, AppAny, joined. -/
import Derived.Test.YtpnpjblohijajabGreatGrp20
import Derived.Maps.AppendAt
import Derived.Deep.RegionWith
import Derived.Test.YtpnpjblohijajabGreatPackTools
import Derived.Test.YtpnpjblohijajabGreatGrp19
import Derived.Laws.AppendOwnNone
namespace Go.Proofs.YtpnpjblohijajabGreat
section
set_option linter.unusedSimpArgs false
set_option linter.unusedVariables false
set_option maxRecDepth 100000
open Go.RowKit Go.MapKept

theorem lenN_txt (s : ByteArray) (r : List UInt8) (h : s.size ≤ 65535) : lenN (txtB s ++ r) = s.size := by
  unfold lenN txtB
  rw [List.append_assoc, List.take_append_of_le_length (by rw [putB_length]; decide), List.take_of_length_le (by rw [putB_length]; decide), get_put 2 _ (by decide)]
  exact Nat.mod_eq_of_lt (by omega)
theorem drop_txt (s : ByteArray) (r : List UInt8) : (txtB s ++ r).drop 2 = strB s ++ r := by
  unfold txtB
  rw [List.append_assoc]
  have e : ∀ l : List UInt8, (putB s.size 2 ++ l).drop 2 = l := fun l => by
    rw [List.drop_append_of_le_length (by rw [putB_length]; decide), List.drop_of_length_le (by rw [putB_length]; decide), List.nil_append]
  exact e _
theorem txtOf_txt (s : ByteArray) (r : List UInt8) (h : s.size ≤ 65535) : txtOf (txtB s ++ r) = s := by
  unfold txtOf
  rw [drop_txt, lenN_txt s r h, List.take_append_of_le_length (by rw [strB_length]; exact Nat.le_refl _), List.take_of_length_le (by rw [strB_length]; exact Nat.le_refl _)]
  rfl
theorem own_ge {w : World} {base g n c k m : Nat} {e : TypeId} {xs : List Value} (h : w.ownsRow base e k (.slice (some ⟨g, 0, none⟩) n c) m xs) : base ≤ g ∧ g < w.heap.size := by
  rcases h.2 with ⟨h0, _⟩ | ⟨g', cap, cur, hv, hb, hc, _⟩
  · cases h0
  · cases hv
    exact ⟨hb, (Array.getElem?_eq_some_iff.1 hc).1⟩
set_option maxHeartbeats 800000 in
theorem gettext_okJ (ao : Option Addr) (n c : Nat) (xs : List UInt8) (most : Int) (w : World) (h : By w ao c xs) (hn : n = xs.length) (hl : n ≤ 1099511627776) (he : textErr xs most = 0) :
    Calls Tryz.prog 82 #[.slice ao n c, .int .i64 most] w fun e w' =>
      ∃ g c', e = .returned (.tuple #[.string (txtOf xs), .slice (some ⟨g, 0, none⟩) (n - 2 - lenN xs) c', .int .i64 0]) ∧ By w' (some ⟨g, 0, none⟩) c' ((xs.drop 2).drop (lenN xs)) ∧ (w.heap.size ≤ g ∧ g < w'.heap.size) ∧ Below w.heap.size w w' := by
  have hmf : ∀ (fn : Fn) (first cap : Array Value) (w : World), (Instr.makeFunc fn first cap).run Tryz.prog w = .ok (.func fn first cap) w := fun _ _ _ _ => rfl
  subst hn
  obtain ⟨hk, hm, hL⟩ : 2 ≤ xs.length ∧ (lenN xs : Int) ≤ most ∧ lenN xs + 2 ≤ xs.length := by
    unfold textErr at he
    split at he
    · cases he
    · split at he
      · cases he
      · split at he
        · cases he
        · refine ⟨by omega, by omega, by omega⟩
  clear he
  go_enter Tryz.func82, Tryz.ntmps82
  go_wp2_with fail
  refine (caught_gett_ok w ao c xs most h hk hm hL).mono ?_
  rintro e w1 ⟨rfl, cr, cq, hb, hs⟩
  have hR := ((h.later hb).rest (k := 2) (by omega)).rest (k := lenN xs) (by rw [List.length_drop]; omega)
  have hLL : Hid (xs.length - 2 - lenN xs = ((xs.drop 2).drop (lenN xs)).length) := by show _ = _; rw [List.length_drop, List.length_drop]
  generalize restAddr (restAddr ao c 2) (c - 2) (lenN xs) = A at *
  go_wp2_with fail
  go_region_with (go_at_call 95; refine (grown_any _ _ _ _ 0 _ (hR.later ?_) hLL.out (by omega) (by decide) (by decide)).mono ?_; exact (Below.refl _ _).drew; rintro e w2 ⟨rfl, hown, hb2⟩; have cq2 := (hb2.cell (p := ⟨w.heap.size + 1 + 1, 0, none⟩) (by simp; omega)).trans cq)
  all_goals
    have hb3 : Below w.heap.size w w2 := hb.trans ((of_drew hb2).mono (by show w.heap.size ≤ w1.heap.size; omega))
    have R := By.own hown (by simp; omega)
    have hgg := And.intro (Nat.le_trans hb.size (own_ge hown).1) (own_ge hown).2
    clear hown hb2 cq2
    go_wp2
    go_ret3
    exact ⟨_, _, rfl, R, hgg, hb3⟩
theorem gett_allJ (ao : Option Addr) (c n : Nat) (s : ByteArray) (r : List UInt8) (most : Int) (w : World) (hB : By w ao c (txtB s ++ r)) (hn : n = s.size + 2 + r.length) (hl : n ≤ 1099511627776) (hs : s.size ≤ 65535) (hm : (s.size : Int) ≤ most) :
    Calls Tryz.prog 82 #[.slice ao n c, .int .i64 most] w fun e w' =>
      ∃ g c', e = .returned (.tuple #[.string s, .slice (some ⟨g, 0, none⟩) r.length c', .int .i64 0]) ∧ By w' (some ⟨g, 0, none⟩) c' r ∧ (w.heap.size ≤ g ∧ g < w'.heap.size) ∧ Below w.heap.size w w' := by
  have hN := lenN_txt s r hs
  have hL : n = (txtB s ++ r).length := by rw [List.length_append, txtB_length]; exact hn
  have he : textErr (txtB s ++ r) most = 0 := by
    unfold textErr
    rw [← hL, hN, if_neg (by omega), if_neg (by omega), if_neg (by omega)]
  refine (gettext_okJ ao n c (txtB s ++ r) most w hB hL hl he).mono ?_
  rintro e w' ⟨g, c', rfl, hB', hgg, hb⟩
  rw [drop_txt, hN, List.drop_append_of_le_length (by rw [strB_length]; exact Nat.le_refl _), List.drop_of_length_le (by rw [strB_length]; exact Nat.le_refl _), List.nil_append] at hB'
  rw [txtOf_txt s r hs, hN]
  have e3 : n - 2 - s.size = r.length := by omega
  rw [e3]
  exact ⟨g, c', rfl, hB', hgg, hb⟩

def SsV (l : List (List UInt8)) : List Value := l.map strV
theorem SsV_len (l : List (List UInt8)) : (SsV l).length = l.length := by unfold SsV; rw [List.length_map]
theorem SsV_app (l m : List (List UInt8)) : SsV (l ++ m) = SsV l ++ SsV m := by unfold SsV; rw [List.map_append]
theorem SsV_one (l : List (List UInt8)) : ∀ u ∈ SsV l, u.oneCell' = true := by
  intro u hu
  unfold SsV at hu
  rw [List.mem_map] at hu
  obtain ⟨s, _, rfl⟩ := hu
  rfl
theorem str_info : ∃ i, Tryz.prog.info? 9 = some i ∧ i.zero = some (.string ⟨#[]⟩) ∧ i.size = 1 ∧ i.bytes = 16 := by
  have h : (Tryz.prog.info? 9).map (fun i => (i.zero, i.size, i.bytes)) = some (some (.string ⟨#[]⟩), 1, 16) := by kernel_rfl
  cases hi : Tryz.prog.info? 9 with
  | none => rw [hi] at h; cases h
  | some i =>
    rw [hi] at h
    simp only [Option.map_some, Option.some.injEq, Prod.mk.injEq] at h
    exact ⟨i, rfl, h.1, h.2.1, h.2.2⟩
theorem slice_one_s (s : List UInt8) (w : World) : (Instr.buildSlice 22 1 #[(0, strV s)]).run Tryz.prog w = .ok (.slice (some ⟨w.heap.size, 0, none⟩) 1 1) (w.alloc (.cells #[strV s] 9)) := by
  have h : (Instr.buildSlice 22 1 #[(0, strV s)]).run Tryz.prog w = ((newRow 9 #[strV s]).run Tryz.prog w).andThen (fun a w => .ok (.slice (some a) 1 1) w) := by kernel_rfl
  rw [h]
  simp [newRow, run_newObj_alloc, Sem.run_bind, Sem.run_pure, Result.andThen]
theorem Strs.at' {w : World} {ad : Addr} {c : Nat} {l : List (List UInt8)} (h : Strs w (some ad) c l) : ∀ j u, (SsV l)[j]? = some u → w.cell? (ad.add j) = some u := fun j u hu => by
  unfold SsV at hu
  rw [List.getElem?_map] at hu
  by_cases hj : j < l.length
  · rw [List.getElem?_eq_getElem hj] at hu
    cases hu
    exact h.cell ad rfl j hj
  · rw [List.getElem?_eq_none (by omega)] at hu
    cases hu
theorem Strs.new (w : World) (s : List UInt8) (m : Nat × Nat) : Strs (w.alloc (.cells #[strV s] 9 m)) (some ⟨w.heap.size, 0, none⟩) 1 [s] := by
  refine ⟨Nat.le_refl _, by decide, fun h => (nomatch h), fun ad had i hi => ?_⟩
  cases had
  have h0 : i = 0 := by simp at hi; exact hi
  subst h0
  have hg : (w.alloc (.cells #[strV s] 9 m)).heap[w.heap.size]? = some (.cells #[strV s] 9 m) := (Go.MapKept.heap_alloc w _).1
  rw [Addr.add_mid, Nat.zero_add]
  unfold World.cell?
  rw [hg]
  rfl
theorem run_appS (w : World) (ty : TypeId) (base : Nat) (v : Value) (n : Nat) (l : List (List UInt8)) (hv : w.ownsRow base 9 1 v n (SsV l)) (ad : Addr) (k c : Nat) (m : List (List UInt8)) (h : Strs w (some ad) c m) (hk : k = m.length) (hl : n + k ≤ 1000000000) (hbase : base ≤ w.heap.size) :
    ∃ v' w', (Builtin.append_ #[22, 22] ty #[v, .slice (some ad) k c]).run Tryz.prog w = .ok v' w' ∧ w'.ownsRow base 9 1 v' (n + k) (SsV (l ++ m)) ∧ w.grownBy w' v.ownBlock := by
  obtain ⟨i0, hi, hz0, hz1, hz2⟩ := str_info
  subst hk
  obtain ⟨v', w', hr, ho, hg, _⟩ := run_append_own (P := Tryz.prog) w base 22 ty 9 i0 (.string ⟨#[]⟩) 1 16 Tryz.underlying22 hi hz0 hz1 hz2 rfl (by decide) v n (SsV l) hv ad m.length c (SsV m) (by rw [SsV_len, Nat.mul_one]) h.at' (SsV_one _) (by unfold maxLen; omega) (by omega) hbase
  refine ⟨v', w', hr, ?_, hg⟩
  rw [SsV_app]
  exact ho
theorem strs_own {w : World} {base n : Nat} {v : Value} {l : List (List UInt8)} (h : w.ownsRow base 9 1 v n (SsV l)) : n = l.length ∧ ∃ ao c, v = .slice ao n c ∧ Strs w ao c l ∧ (∀ ad, ao = some ad → base ≤ ad.block ∧ ad.block < w.heap.size) := by
  have hl : n = l.length := by have := h.1; rw [SsV_len] at this; omega
  refine ⟨hl, ?_⟩
  subst hl
  rcases h.2 with ⟨rfl, h0⟩ | ⟨g, cap, cur, rfl, hb, hg, hle, hm, hs, ht⟩
  · have : l = [] := List.eq_nil_of_length_eq_zero h0
    subst this
    exact ⟨none, 0, rfl, Strs.nothing _, fun _ h => (nomatch h)⟩
  · refine ⟨some ⟨g, 0, none⟩, cap, rfl, ⟨hle, hm, fun h => (nomatch h), fun ad had i hi => ?_⟩, fun ad had => ?_⟩
    · cases had
      refine h.cells (g := g) rfl i (strV l[i]) ?_
      unfold SsV
      rw [List.getElem?_map, List.getElem?_eq_getElem hi]
      rfl
    · cases had
      exact ⟨hb, (Array.getElem?_eq_some_iff.1 hg).1⟩
theorem own_nilS (w : World) (base : Nat) : w.ownsRow base 9 1 (.slice none 0 0) 0 (SsV []) := ⟨rfl, .inl ⟨rfl, rfl⟩⟩
theorem own_keptE {w w' : World} {base n : Nat} {e : TypeId} {k : Nat} {v : Value} {xs : List Value} (h : w.ownsRow base e k v n xs) (hq : Below w.heap.size w w') : w'.ownsRow base e k v n xs := by
  obtain ⟨h1, h2⟩ := h
  refine ⟨h1, h2.imp id ?_⟩
  rintro ⟨g, cap, cur, hv, hb, hg, hr⟩
  refine ⟨g, cap, cur, hv, hb, ?_, hr⟩
  rw [hq.block g (Array.getElem?_eq_some_iff.1 hg).1]
  exact hg
end

section
set_option linter.unusedSimpArgs false
set_option linter.unusedVariables false
set_option maxRecDepth 100000
open Go.RowKit

theorem run_appAny (w : World) (ty : TypeId) (base : Nat) (v : Value) (n : Nat) (xs : List UInt8) (hv : w.ownsRow base 5 1 v n (Bs xs)) (bo : Option Addr) (k c : Nat) (ys : List UInt8) (h : By w bo c ys) (hk : k = ys.length) (hl : n + k ≤ 1000000000) (hbase : base ≤ w.heap.size) :
    ∃ ao' c' w', (Builtin.append_ #[60, 60] ty #[v, .slice bo k c]).run Tryz.prog w = .ok (.slice ao' (n + k) c') w' ∧ w'.ownsRow base 5 1 (.slice ao' (n + k) c') (n + k) (Bs (xs ++ ys)) ∧ By w' ao' c' (xs ++ ys) ∧ w.grownBy w' v.ownBlock := by
  cases bo with
  | none =>
    obtain ⟨i0, hi, hz0, hz1, hz2⟩ := info_parts Tryz.infoByte
    have hc := h.nil rfl
    have h0 : ys = [] := by have := h.le; exact List.eq_nil_of_length_eq_zero (by omega)
    subst h0 hc
    have hk0 : k = 0 := hk
    subst hk0
    rw [List.append_nil, Nat.add_zero]
    obtain ⟨_, ao', c', rfl, hB⟩ := own_by hv
    exact ⟨ao', c', w, run_append_owned_none (P := Tryz.prog) (w := w) base 60 ty 5 i0 1 Tryz.underlying60 hi _ n _ hv, hv, hB, World.grownBy.refl _ _⟩
  | some ad =>
    obtain ⟨v', w', hr, ho, hg⟩ := run_appB w ty base v n xs hv ad k c ys h hk hl hbase
    obtain ⟨_, ao', c', rfl, hB⟩ := own_by ho
    exact ⟨ao', c', w', hr, ho, hB, hg⟩
section
variable {ops : Array Oper} {Q : Exit → Act → World → Prop} {S : World → Prop} {i : Nat} {p : Plan} {a : Act} {w : World}
theorem plan_appAny (o : Oper) (ho : nth ops.toList i = some o) (hw : Region.wanted o (yielded ops a.tmps) = true) (s x : Operand)
    (hop : o.op = Op.call { callee := Callee.builtin Builtin.append, args := #[s, x], argTypes := #[60, 60] })
    (base : Nat) (v : Value) (n : Nat) (xs : List UInt8) (hs : a.eval s = v) (bo : Option Addr) (k c : Nat) (ys : List UInt8) (hx : a.eval x = .slice bo k c) (hv : w.ownsRow base 5 1 v n (Bs xs)) (h : By w bo c ys) (hk : k = ys.length) (hl : n + k ≤ 1000000000) (hbase : base ≤ w.heap.size)
    (hK : ∀ ao' c' w', w'.ownsRow base 5 1 (.slice ao' (n + k) c') (n + k) (Bs (xs ++ ys)) → By w' ao' c' (xs ++ ys) → w.grownBy w' v.ownBlock → S w' ∧ wpPlan Tryz.prog ops Q S p (a.put o.dst (.slice ao' (n + k) c')) w') : wpPlan Tryz.prog ops Q S (Plan.run i p) a w := by
  refine plan_run o ho fun K hK' => ?_
  rw [if_pos hw]
  obtain ⟨ao', c', w', hr, hown, hB, hgr⟩ := run_appAny w o.type base v n xs hv bo k c ys h hk hl hbase
  obtain ⟨h1, h2⟩ := hK ao' c' w' hown hB hgr
  unfold Oper.wp
  simp [execOp, hop, resolve, invoke, builtin, hs, hx, hr, Result.andThen]
  exact hK'.out _ _ h1 h2
end
/-- The head of a row of one's own, as a row of one's own. -/
theorem own_head {w : World} {b g n k : Nat} {xs : List UInt8} (hn : n = xs.length) (hb : b ≤ g) (hl : n ≤ 1000000000) (h : Has w g 5 (Bs xs).toArray) (hk : k ≤ n) : w.ownsRow b 5 1 (.slice (some ⟨g, 0, none⟩) k n) k (Bs (xs.take k)) := by
  have hlen : (xs.take k).length = k := by rw [List.length_take]; omega
  refine ⟨by rw [Bs_length, hlen, Nat.mul_one], .inr ⟨g, n, (Bs xs).toArray, rfl, hb, h, hk, by unfold maxLen; omega, by rw [List.size_toArray, Bs_length, hn, Nat.mul_one], ?_⟩⟩
  show (Bs xs).toArray.toList.take (k * 1) = Bs (xs.take k)
  rw [Nat.mul_one, Bs_take]
end
end Go.Proofs.YtpnpjblohijajabGreat
