/- paddocklaw9.ChooseFew returns true, for whatever group and row of bools, where package history answers as it has to. -/
import Derived.Test.YtlbokkbngbpmiaaFewFacts9
import Derived.Test.YtlbokkbngbpmiaaChooseKnown
import Derived.Test.YtlbokkbngbpmiaaIntApp
namespace Go.Proofs.Ytlbokkbngbpmiaa
set_option linter.unusedSimpArgs false
set_option linter.unusedVariables false
set_option maxRecDepth 100000
open Go.RowKit

theorem inc_two (k o : Nat) : Try.prog.built 73 [(0, .int .u8 (k : Int)), (1, .int .u8 (o : Int))] = some (incC ⟨k, o, 0⟩) := by kernel_rfl
theorem wpList_build_two9 {P : Program} {ops : Array Oper} {rest : List Oper} {o : Oper} {a : Act} {w : World} {Q : Exit → Act → World → Prop} (hw : Region.wanted o (yielded ops a.tmps) = true) (t : TypeId) (i j : Nat) (x y : Operand) (ho : o.op = .build t #[(i, x), (j, y)]) (p q : Value) (hx : a.eval x = p) (hy : a.eval y = q) (c : Array Value) (hf : P.built t [(i, p), (j, q)] = some c)
    (h : wpList P ops Q rest (a.put o.dst (.agg c)) w) : wpList P ops Q (o :: rest) a w :=
  wpList_build_has hw t _ ho c (by simpa [hx, hy] using hf) h
theorem iv_get9 {w : World} {ad : Addr} {c : Nat} {l : List (Nat × List Int)} (h : Iv w (some ad) c l) (i : Nat) (hi : i < l.length) :
    w.cell? (ad.add (i * 2)) = some (.int .u32 (l[i].1 : Nat)) ∧ ∃ bo d, w.cell? ⟨(ad.add (i * 2)).block, (ad.add (i * 2)).off + 1, none⟩ = some (.slice bo l[i].2.length d) ∧ Ix w bo d l[i].2 := by
  obtain ⟨h1, bo, d, h2, h3⟩ := h.at' ad rfl i hi
  rw [fld_add] at h2
  exact ⟨h1, bo, d, h2, h3⟩

set_option maxHeartbeats 8000000 in
theorem few_walk9 {Is : World → Nat → List IncV → (Nat → Prop) → Prop} (S : HistSpec Is) (gr : Nat) (f : Fin 5 → Bool) (w : World) (hgr : gr < 256) :
    Calls Try.prog 7 #[.int .u8 gr, .agg (boolC f)] w fun e w' => e = .returned (.bool true) ∧ Below w.heap.size w w' := by
  obtain ⟨g, hg⟩ : ∃ g, gr % 4 = g := ⟨_, rfl⟩
  have hg4 : g < 4 := by omega
  have hg' : Hid _ := hg
  clear hg
  obtain ⟨w0, hw0⟩ : ∃ W, w.alloc (.cells (boolC f) 75) = W := ⟨_, rfl⟩
  have hB0 : Has w0 w.heap.size 75 (boolC f) := hw0 ▸ Has.new _ _ _
  have hb0 : Below w.heap.size w w0 := hw0 ▸ (Below.refl _ _).alloc (Nat.le_refl _) _
  go_enter Try.func7, Try.ntmps7
  go_wp2_with fail
  try rw [hw0]
  refine (known9_any S _).mono ?_
  rintro e w1 ⟨rfl, hq⟩
  replace hB0 := hB0.later hq
  replace hb0 := hb0.trans (hq.mono hb0.size)
  clear hq hw0
  go_wp2_with (first
    | (refine wpList_val (.int .u8 (g : Int)) (by rfl) (run_rem_u8 _ _ _ _ rfl gr 4 g rfl rfl hgr (by decide) hg'.out) ?_))
  refine (S.new _).mono ?_
  rintro e w2 ⟨p, F, rfl, hH, hF, hq⟩
  have hlt1 := hB0.lt
  have hF0 : ∀ b, F b → w.heap.size + 1 ≤ b := fun b h => by have := hF b h; omega
  replace hB0 := hB0.later hq
  replace hb0 := hb0.trans (hq.mono hb0.size)
  clear hq hF
  have hpt : ptr p = .pointer (some ⟨p, 0, none⟩) := rfl
  rw [hpt]
  go_wp2
  go_loopw [7, 8] (fun nv i wr => ∃ (n : Nat) (xs : List IncV) (F : Nat → Prop), n ≤ 5 ∧ i = .int .i64 n ∧ nv = .int .u32 (xs.length + 1 : Nat) ∧ xs.length ≤ n ∧ Ups xs (offU f n) ∧ Is wr p xs F ∧ (∀ b, F b → w.heap.size + 1 ≤ b) ∧ Has wr w.heap.size 75 (boolC f) ∧ Below w.heap.size w wr) (fun _ i _ => (5 - intOf i).toNat)
  case atStart => exact ⟨0, [], F, by decide, rfl, rfl, Nat.le_refl _, Ups.nil.congr (off_0 f), hH, hF0, hB0, hb0⟩
  case round =>
    clear hH hF0 hB0 hb0
    obtain ⟨n, xs, F1, hn, rfl, rfl, hln, hU, hH, hF1, hB, hb⟩ := hrel
    by_cases hlt : n < 5
    · have hnI : (n : Int) < 5 := by omega
      have cB : wr.cell? ⟨w.heap.size, n, none⟩ = some (.bool (f ⟨n, hlt⟩)) := by rw [hB.cell n]; exact boolC_at f ⟨n, hlt⟩
      cases hf : f ⟨n, hlt⟩ with
      | false =>
        rw [hf] at cB
        have hU2 := hU.congr (off_no f hlt hf)
        go_wp2
        go_roundw
        case rel => exact ⟨n + 1, xs, F1, by omega, by go_num, rfl, by omega, hU2, hH, hF1, hB, hb⟩
        case measure => simp [intOf]; omega
      | true =>
        rw [hf] at cB
        obtain ⟨hadd, hU1⟩ := hU.step (k := 2) (i := n) (by decide) hlt (by omega)
        have hU2 := hU1.congr (off_yes f hlt hf)
        have hAdd := S.add (xs.length + 2) ⟨2, n, 0⟩ hH (by omega) (ups_ok (by decide) hlt)
        rw [hadd, hpt] at hAdd
        have hsl : xs.length + 2 < 4294967296 := by omega
        have hbu := inc_two 2 n
        have hxl : Hid ((xs ++ [(⟨2, n, 0⟩ : IncV)]).length = xs.length + 1) := by show _ = _; rw [List.length_append]; rfl
        go_wp2_with (first
          | (refine wpList_val (.int .u32 ((xs.length + 2 : Nat) : Int)) (by rfl) (run_add_u32c _ _ _ _ rfl (xs.length + 1) 1 (xs.length + 2) rfl rfl rfl hsl) ?_)
          | (refine wpList_build_two9 (by rfl) 73 0 1 _ _ rfl (.int .u8 ((2 : Nat) : Int)) (.int .u8 (n : Int)) rfl rfl (incC ⟨2, n, 0⟩) hbu ?_))
        refine hAdd.mono ?_
        rintro e w5 ⟨rfl, ⟨F2, hH2, hF2⟩, hoff⟩
        have hB2 := hoff.has hB (fun h => by have := hF1 _ h; omega)
        have hb2 : Below w.heap.size w w5 := hb.trans (hoff.below (fun b h => by have := hF1 b h; omega) hb.size)
        have hF3 : ∀ b, F2 b → w.heap.size + 1 ≤ b := fun b h => by
          rcases hF2 b h with h | h
          · exact hF1 b h
          · have := hB.lt; omega
        clear hAdd hoff hH hB hb hF2 hU1 hU hadd
        go_wp2
        go_roundw
        case rel => exact ⟨n + 1, _, F2, by omega, by go_num, by rw [hxl.out]; congr 1, by rw [hxl.out]; omega, hU2, hH2, hF3, hB2, hb2⟩
        case measure => simp [intOf]; omega
    · have e5 : n = 5 := by omega
      subst e5
      replace hU := hU.congr (off_5 f)
      have hac := S.acting g hH (by omega)
      have hsv := Serves_any S g hH (by omega)
      rw [serves_now] at hsv
      rw [hpt] at hac hsv
      have hnl : (nowH xs g).length ≤ 3 := by rw [now_is]; exact (actM_mem _ g).2
      go_wp2_with fail
      refine hac.mono ?_
      rintro e w3 ⟨bo, d, rfl, hA, hq, _⟩
      replace hH := S.later hH hq
      replace hB := hB.later hq
      replace hb := hb.trans (hq.mono hb.size)
      have hAc := hA.cap
      have hAl := hA.le
      clear hq hac hsv hA
      have hsv := Serves_any S g hH (by omega)
      rw [serves_now, hpt] at hsv
      generalize (nowH xs g).length = m at *
      go_wp2_with fail
      refine hsv.mono ?_
      rintro e w4 ⟨rfl, hq⟩
      replace hH := S.later hH hq
      replace hB := hB.later hq
      replace hb := hb.trans (hq.mono hb.size)
      clear hq hsv
      have hdd : (decide (2 ≤ m) == decide ((m : Int) < 2)) = false := by
        by_cases h2 : 2 ≤ m
        · rw [decide_eq_true h2, decide_eq_false (by omega)]; rfl
        · rw [decide_eq_false h2, decide_eq_true (by omega)]; rfl
      go_wp2
      go_loopw [7, 10] (fun nv i wr => ∃ (n : Nat) (xs : List IncV) (F : Nat → Prop), n ≤ 5 ∧ i = .int .i64 n ∧ nv = .int .u32 (xs.length + 1 : Nat) ∧ xs.length ≤ 5 + n ∧ Ups xs (onU f n) ∧ Is wr p xs F ∧ (∀ b, F b → w.heap.size + 1 ≤ b) ∧ Has wr w.heap.size 75 (boolC f) ∧ Below w.heap.size w wr) (fun _ i _ => (5 - intOf i).toNat)
      case atStart => exact ⟨0, xs, F1, by decide, rfl, rfl, by omega, hU, hH, hF1, hB, hb⟩
      case round =>
        clear hH hF1 hB hb hU hln
        obtain ⟨n, ys, F3, hn, rfl, rfl, hln, hU, hH, hF1, hB, hb⟩ := hrel
        obtain ⟨xs', hxs'⟩ : ∃ z, z = ys := ⟨_, rfl⟩
        clear hxs'
        by_cases hlt : n < 5
        · have hnI : (n : Int) < 5 := by omega
          have cB : wr.cell? ⟨w.heap.size, n, none⟩ = some (.bool (f ⟨n, hlt⟩)) := by rw [hB.cell n]; exact boolC_at f ⟨n, hlt⟩
          cases hf : f ⟨n, hlt⟩ with
          | false =>
            rw [hf] at cB
            have hU2 := hU.congr (on_no f hlt hf)
            go_wp2
            go_roundw
            case rel => exact ⟨n + 1, ys, F3, by omega, by go_num, rfl, by omega, hU2, hH, hF1, hB, hb⟩
            case measure => simp [intOf]; omega
          | true =>
            rw [hf] at cB
            obtain ⟨hadd, hU1⟩ := hU.step (k := 1) (i := n) (by decide) hlt (by omega)
            have hU2 := hU1.congr (on_yes f hlt)
            have hAdd := S.add (ys.length + 2) ⟨1, n, 0⟩ hH (by omega) (ups_ok (by decide) hlt)
            rw [hadd, hpt] at hAdd
            have hsl : ys.length + 2 < 4294967296 := by omega
            have hbu := inc_two 1 n
            have hxl : Hid ((ys ++ [(⟨1, n, 0⟩ : IncV)]).length = ys.length + 1) := by show _ = _; rw [List.length_append]; rfl
            go_wp2_with (first
              | (refine wpList_val (.int .u32 ((ys.length + 2 : Nat) : Int)) (by rfl) (run_add_u32c _ _ _ _ rfl (ys.length + 1) 1 (ys.length + 2) rfl rfl rfl hsl) ?_)
              | (refine wpList_build_two9 (by rfl) 73 0 1 _ _ rfl (.int .u8 ((1 : Nat) : Int)) (.int .u8 (n : Int)) rfl rfl (incC ⟨1, n, 0⟩) hbu ?_))
            refine hAdd.mono ?_
            rintro e w5 ⟨rfl, ⟨F2, hH2, hF2⟩, hoff⟩
            have hB2 := hoff.has hB (fun h => by have := hF1 _ h; omega)
            have hb2 : Below w.heap.size w w5 := hb.trans (hoff.below (fun b h => by have := hF1 b h; omega) hb.size)
            have hFz : ∀ b, F2 b → w.heap.size + 1 ≤ b := fun b h => by
              rcases hF2 b h with h | h
              · exact hF1 b h
              · have := hB.lt; omega
            clear hAdd hoff hH hB hb hF2 hU1 hU hadd
            go_wp2
            go_roundw
            case rel => exact ⟨n + 1, _, F2, by omega, by go_num, by rw [hxl.out]; congr 1, by rw [hxl.out]; omega, hU2, hH2, hFz, hB2, hb2⟩
            case measure => simp [intOf]; omega
        · have e5 : n = 5 := by omega
          subst e5
          replace hU := hU.congr (on_5 f)
          have hlk := Lacks_any S g none 0 [] 0 hH (by omega) (Ix.nothing _) (Nat.zero_le _) (by decide)
          rw [hpt] at hlk
          have hsvT := hU.serves hg4
          have hyl := lenH hU.good
          have htwo : Hid (∀ v ∈ lacksM (ivals ys g) [] 0, 2 ≤ v.2.length ∧ 0 ≤ v.1) := fun v hv => lacks_two hv
          have hll : (lacksM (ivals ys g) [] 0).length ≤ 60 := by
            have h1 := List.length_filter_le (lackB [] 0) (ivals ys g).dropLast
            have h2 := ivals_len ys g
            rw [List.length_dropLast] at h1
            show (List.filter _ _).length ≤ 60
            omega
          generalize lacksM (ivals ys g) [] 0 = L at *
          go_wp2_with fail
          refine hlk.mono ?_
          rintro e w6 ⟨ro, rc, rfl, hR, hq⟩
          replace hH := S.later hH hq
          replace hb := hb.trans (hq.mono hb.size)
          have hRc := hR.cap
          have hRl := hR.le
          clear hq hlk hB
          go_wp2
          go_loopw [12] (fun i wr => ∃ n : Nat, n ≤ L.length ∧ i = .int .i64 n ∧ wr = w6) (fun i _ => L.length - (intOf i).toNat)
          case atStart => exact ⟨0, Nat.zero_le _, rfl, rfl⟩
          case round =>
            obtain ⟨n, hn, rfl, rfl⟩ := hrel
            by_cases hlt : n < L.length
            · have hnI : (n : Int) < (L.length : Int) := by omega
              cases ro with
              | none => have := hR.nil rfl; omega
              | some rd =>
                obtain ⟨_, bo, d, c1, hI⟩ := iv_get9 hR n hlt
                have h2 := (htwo.out _ (List.getElem_mem hlt)).1
                have hIc := hI.cap
                have hIl := hI.le
                generalize L[n] = v at *
                have h2I : ¬ ((v.2.length : Nat) : Int) < 2 := by omega
                have h2J : (2 : Int) ≤ ((v.2.length : Nat) : Int) := by omega
                generalize v.2.length = vl at *
                go_wp2
                go_roundw
                case rel => first | exact ⟨n + 1, by omega, by go_num, rfl⟩ | exact ⟨n + 1, by omega, by go_num, trivial⟩ | exact ⟨n + 1, by omega, by go_num⟩
                case measure => simp [intOf]; omega
            · have hnI : ¬ (n : Int) < (L.length : Int) := by omega
              have hsv := Serves_any S g hH (by omega)
              rw [hsvT, hpt] at hsv
              go_wp2_with fail
              refine hsv.mono ?_
              rintro e w7 ⟨rfl, hq⟩
              replace hb := hb.trans (hq.mono hb.size)
              go_wp2
              go_ret
              exact ⟨rfl, hb⟩
end Go.Proofs.Ytlbokkbngbpmiaa
