/- The contracts of maps.In and maps.Up, by that of maps.those. -/
import Derived.Test.YtmfgmdglpeadbaaHeld
import Derived.Test.YtmfgmdglpeadbaaFolds
import Derived.Test.YtmfgmdglpeadbaaInts
namespace Go.Proofs.Ytmfgmdglpeadbaa
set_option linter.unusedSimpArgs false
set_option linter.unusedVariables false
open Go.RowKit

theorem Try.infoInt : (Try.prog.info? 3).map (fun i => (i.zero, i.size, i.bytes)) = some (some (.int .i64 0), 1, 8) := by kernel_rfl

/-- What is picked of the first daemons. -/
def pickN (p : OsdV → Bool) (m : MapV) : Nat → List Int
  | 0 => []
  | n + 1 => pickN p m n ++ (if h : n < 5 then (if p (m.osd ⟨n, h⟩) then [(n : Int)] else []) else [])

theorem pickN_yes {p : OsdV → Bool} {m : MapV} {n : Nat} (h : n < 5) (hp : p (m.osd ⟨n, h⟩) = true) : pickN p m (n + 1) = pickN p m n ++ [(n : Int)] := by
  show pickN p m n ++ _ = _
  rw [dif_pos h, hp]
  rfl

theorem pickN_no {p : OsdV → Bool} {m : MapV} {n : Nat} (h : n < 5) (hp : p (m.osd ⟨n, h⟩) = false) : pickN p m (n + 1) = pickN p m n := by
  show pickN p m n ++ _ = _
  rw [dif_pos h, hp]
  exact List.append_nil _

theorem pickN_5 (p : OsdV → Bool) (m : MapV) : pickN p m 5 = pickL p m := by
  have h0 : ∀ n (h : n < 5), pickN p m (n + 1) = pickN p m n ++ (if p (m.osd ⟨n, h⟩) then [(n : Int)] else []) := fun n h => by
    show pickN p m n ++ _ = _
    rw [dif_pos h]
  rw [h0 4 (by decide), h0 3 (by decide), h0 2 (by decide), h0 1 (by decide), h0 0 (by decide)]
  unfold pickL
  have e : List.finRange 5 = [0, 1, 2, 3, 4] := rfl
  rw [e]
  have f0 : m.osd ⟨0, by decide⟩ = m.osd 0 := rfl
  have f1 : m.osd ⟨1, by decide⟩ = m.osd 1 := rfl
  have f2 : m.osd ⟨2, by decide⟩ = m.osd 2 := rfl
  have f3 : m.osd ⟨3, by decide⟩ = m.osd 3 := rfl
  have f4 : m.osd ⟨4, by decide⟩ = m.osd 4 := rfl
  rw [f0, f1, f2, f3, f4]
  simp only [List.filter_cons, List.filter_nil]
  cases p (m.osd 0) <;> cases p (m.osd 1) <;> cases p (m.osd 2) <;> cases p (m.osd 3) <;> cases p (m.osd 4) <;> rfl

theorem pickN_len (p : OsdV → Bool) (m : MapV) (n : Nat) : (pickN p m n).length ≤ n := by
  induction n with
  | zero => exact Nat.le_refl _
  | succ n ih =>
    show (pickN p m n ++ _).length ≤ _
    rw [List.length_append]
    split
    · split
      · simp; omega
      · simp; omega
    · simp; omega

def intsC (xs : List Int) : List Value := xs.map fun x => .int .i64 x

/-- A row of one's own, as a slice of int. -/
theorem ix_own {w : World} {base n : Nat} {v : Value} {xs : List Int} (h : w.ownsRow base 3 1 v n (intsC xs)) : n = xs.length ∧ ∃ ao c, v = .slice ao n c ∧ Ix w ao c xs := by
  have hl : n = xs.length := by
    have := h.1
    unfold intsC at this
    rw [List.length_map] at this
    omega
  refine ⟨hl, ?_⟩
  rcases h.2 with ⟨hv, h0⟩ | ⟨g, cap, cur, hv, hg, hc, hle, hm, hr⟩
  · have : xs = [] := List.eq_nil_of_length_eq_zero (by omega)
    subst this
    exact ⟨none, 0, by rw [hv, h0], Ix.nothing _⟩
  · refine ⟨some ⟨g, 0, none⟩, cap, hv, ⟨by omega, hm, (fun h => by cases h), fun ad had j hj => ?_⟩⟩
    obtain rfl := Option.some.inj had
    have hf : (intsC xs)[j]? = some (.int .i64 xs[j]) := by
      unfold intsC
      rw [List.getElem?_map, List.getElem?_eq_getElem hj]
      rfl
    exact h.cells (g := g) (by rw [hv]; rfl) j _ hf

theorem own_below {w w' : World} {base n sz : Nat} {e : TypeId} {v : Value} {xs : List Value} (h : w.ownsRow base e sz v n xs) (hb : Below w.heap.size w w') : w'.ownsRow base e sz v n xs := by
  refine ⟨h.1, ?_⟩
  rcases h.2 with h | ⟨g, cap, cur, hv, hg, hc, hr⟩
  · exact .inl h
  · refine .inr ⟨g, cap, cur, hv, hg, ?_, hr⟩
    rw [hb.block g (Array.getElem?_eq_some_iff.1 hc).1]
    exact hc

set_option maxRecDepth 100000 in
theorem in1_any (o : OsdV) (w : World) (h : -9223372036854775808 ≤ o.wt ∧ o.wt ≤ 9223372036854775807) :
    Calls Try.prog 58 #[.agg (osdC o)] w fun e w' => e = .returned (.bool (decide (0 < o.wt))) ∧ Below w.heap.size w w' := by
  have c1 : (osdC o)[1]? = some (.int .i64 o.wt) := rfl
  have hb := (Below.refl w.heap.size w).alloc (Nat.le_refl _) (.cells (osdC o) 41)
  go_enter Try.func58, Try.ntmps58
  go_wp2
  all_goals
    go_ret
    exact ⟨rfl, hb⟩

set_option maxRecDepth 100000 in
set_option maxHeartbeats 1000000 in
theorem those_any (p : OsdV → Bool) (f : FuncId) (hf : f = 58) (m : MapV) (w : World) (hm : MapOk m) (hp : ∀ (i : Fin 5) (w : World), Calls Try.prog f #[.agg (osdC (m.osd i))] w fun e w' => e = .returned (.bool (p (m.osd i))) ∧ Below w.heap.size w w') :
    Calls Try.prog 57 #[.agg (mapC m), .func (.func f) #[] #[]] w fun e w' => ∃ ao c, e = .returned (.slice ao (pickL p m).length c) ∧ Ix w' ao c (pickL p m) ∧ Below w.heap.size w w' := by
  obtain ⟨i0, hi, hz0, hz1, hz2⟩ := info_parts Try.infoInt
  have hM0 := Has.new w 44 (mapC m)
  have hb0 := (Below.refl w.heap.size w).alloc (Nat.le_refl _) (.cells (mapC m) 44)
  go_enter Try.func57, Try.ntmps57
  go_wp2_with (first
    | (refine load_osds m (by rfl) _ rfl _ rfl hM0 ?_; generalize w.alloc (.cells (mapC m) 44) = w1 at *))
  go_loopw [5, 10] (fun v i wr => ∃ n : Nat, n ≤ 5 ∧ i = .int .i64 n ∧ wr.ownsRow w.heap.size 3 1 v (pickN p m n).length (intsC (pickN p m n)) ∧ Below w.heap.size w wr) (fun _ i _ => (5 - intOf i).toNat)
  case atStart => exact ⟨0, by decide, rfl, World.ownsRow_nil _ _ _ _, hb0⟩
  case round =>
    obtain ⟨n, hn, rfl, hown, hb⟩ := hrel
    by_cases hlt : n < 5
    · have hO1 := (Has.new wr 41 (osdC ⟨false, 0, 0⟩)).row (osdC (m.osd ⟨n, hlt⟩))
      have hbb := below_setRow ((Below.refl wr.heap.size wr).alloc (Nat.le_refl _) (.cells (osdC ⟨false, 0, 0⟩) 41)) (Nat.le_refl _) (osdC (m.osd ⟨n, hlt⟩))
      have hb1 := hb.trans (hbb.mono hb.size)
      have hlenN := pickN_len p m n
      go_wp2_with (first
        | (refine index_osd m n hlt (by rfl) _ _ rfl rfl rfl ?_)
        | (refine alloc_osd (by rfl) rfl ?_)
        | (refine store_osd _ _ (by rfl) _ _ rfl _ rfl rfl (Has.new _ _ _) ?_; generalize (wr.alloc (.cells (osdC ⟨false, 0, 0⟩) 41)).setRow wr.heap.size (osdC (m.osd ⟨n, hlt⟩)) = w3 at *)
        | (refine load_osd _ (by rfl) _ rfl _ rfl hO1 ?_))
      subst hf
      all_goals go_wp2_with fail
      all_goals
        refine (hp ⟨n, hlt⟩ _).mono ?_
        rintro e w4 ⟨rfl, hb4⟩
        replace hbb := hbb.trans (hb4.mono hbb.size)
        replace hb1 := hb1.trans (hb4.mono hb1.size)
        have hown4 := own_below hown hbb
        clear hb4 hbb hown hO1 hb
        cases hpn : p (m.osd ⟨n, hlt⟩) with
        | false =>
          go_wp2
          go_roundw
          case rel => exact ⟨n + 1, by omega, by go_num, by rw [pickN_no hlt hpn]; exact hown4, hb1⟩
          case measure => simp [intOf]; omega
        | true =>
          go_wp2_with (at_builtin; refine wpList_append_own _ rfl _ _ 53 rfl w.heap.size 3 i0 (.int .i64 0) 1 8 Try.underlying53 hi hz0 hz1 hz2 rfl (by decide) _ (pickN p m n).length _ rfl (hown4.alloc _) ⟨w4.heap.size, 0, none⟩ 1 1 [.int .i64 n] rfl rfl ?c1 ?c2 (by unfold maxLen; omega) (by omega) (by have := hb1.size; simp; omega) ?_)
          case c1 =>
            intro j u hj
            match j, hj with
            | 0, hj => simp at hj; subst hj; simp [Addr.add]
          case c2 => intro u hu; simp at hu; rcases hu with rfl; rfl
          intro v' w5 hown5 hgrow _
          have hb5 : Below w.heap.size w w5 := (hb1.alloc hb1.size _).grown hgrow (by have := hb1.size; simp; omega) (fun k hk => (hown4.lt k hk).1)
          have hown6 : w5.ownsRow w.heap.size 3 1 v' (pickN p m (n + 1)).length (intsC (pickN p m (n + 1))) := by
            rw [pickN_yes hlt hpn]
            unfold intsC at hown5 ⊢
            rw [List.length_append, List.map_append]
            exact hown5
          clear hown4 hown5 hgrow hb1
          go_wp2
          go_roundw
          case rel => exact ⟨n + 1, by omega, by go_num, hown6, hb5⟩
          case measure => simp [intOf]; omega
    · have e5 : n = 5 := by omega
      subst e5
      rw [pickN_5] at hown
      obtain ⟨_, ao, c, rfl, hIx⟩ := ix_own hown
      go_wp2
      go_ret
      exact ⟨ao, c, rfl, hIx, hb⟩
set_option maxRecDepth 100000 in
theorem in_any (m : MapV) (w : World) (hm : MapOk m) :
    Calls Try.prog 51 #[.agg (mapC m)] w fun e w' => ∃ ao c, e = .returned (.slice ao (inL m).length c) ∧ Ix w' ao c (inL m) ∧ Below w.heap.size w w' := by
  have hH := Has.new w 44 (mapC m)
  have hb := (Below.refl w.heap.size w).alloc (Nat.le_refl _) (.cells (mapC m) 44)
  go_enter Try.func51, Try.ntmps51
  go_wp2_with (first
    | (refine load_map _ (by rfl) _ rfl _ rfl hH ?_))
  refine (those_any (fun o => decide (0 < o.wt)) 58 rfl m _ hm (fun i w => in1_any _ w (hm.wt i))).mono ?_
  rintro e w1 ⟨ao, c, rfl, hIx, hb1⟩
  go_wp2
  go_ret
  exact ⟨ao, c, rfl, hIx, hb.trans (hb1.mono hb.size)⟩

end Go.Proofs.Ytmfgmdglpeadbaa
