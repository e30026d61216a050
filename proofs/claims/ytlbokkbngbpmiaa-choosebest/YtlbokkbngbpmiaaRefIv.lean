/- The contracts of the document's Intervals and Now. -/
import Derived.Test.YtlbokkbngbpmiaaRefHist
import Derived.Test.YtlbokkbngbpmiaaRefActing
import Derived.Test.YtlbokkbngbpmiaaRefSame
import Derived.Test.YtlbokkbngbpmiaaIvRow
namespace Go.Proofs.Ytlbokkbngbpmiaa
set_option linter.unusedSimpArgs false
set_option linter.unusedVariables false
set_option maxRecDepth 100000
open Go.RowKit

set_option maxHeartbeats 4000000 in
theorem rint_any (p : Nat) (lo : Option Addr) (lc : Nat) (xs : List IncV) (g : Nat) (w : World) (hP : Has w p 81 #[.slice lo xs.length lc]) (hS : Sl w lo lc 3 (incR xs)) (hgood : Good xs) (hg : g < 256) :
    Calls Try.prog 41 #[ptr p, .int .u8 g] w fun en w' => ∃ ao d, en = .returned (.slice ao (ivals xs g).length d) ∧ Iv w' ao d (ivals xs g) ∧ Below w.heap.size w w' := by
  obtain ⟨i0, hi, hz0, hz1, hz2⟩ := info_parts Try.infoIv
  have hpt : ptr p = .pointer (some ⟨p, 0, none⟩) := rfl
  rw [hpt]
  have hl := lenH hgood
  have hlI : (xs.length : Int) ≤ 59 := by omega
  have hlcap := hS.cap
  have hlle := hS.le
  rw [incR_len] at hlle
  have hPl := hP.lt
  by_cases hg4 : (4 : Int) ≤ (g : Int)
  · have hno : ivals xs g = [] := if_neg (by omega)
    go_enter Try.func41, Try.ntmps41
    go_wp2
    go_ret
    exact ⟨none, 0, by rw [hno]; rfl, by rw [hno]; exact Iv.nothing _, Below.refl _ _⟩
  · have hyes : Hid (ivals xs g = ivPre xs g (xs.length + 1)) := if_pos (by omega)
    have hg4' : (g : Int) < 4 := by omega
    clear hg4
    go_enter Try.func41, Try.ntmps41
    go_wp2_with (first
      | (go_at_call 63; refine (reffirst_any _).mono ?_; rintro e w1 ⟨rfl, hb⟩)
      | (refine alloc_map (by rfl) rfl ?_)
      | (refine store_map firstM zeroM (by rfl) _ _ rfl _ rfl rfl ?hg ?_; (case hg => exact Has.new _ _ _); have hM := (Has.new w1 106 (mapC zeroM)).row (mapC firstM); have hbb := below_setRow ((Below.refl w1.heap.size w1).alloc (Nat.le_refl _) (.cells (mapC zeroM) 106)) (Nat.le_refl _) (mapC firstM); have hbs := hb.size; replace hb := hb.trans (hbb.mono hb.size); clear hbb; generalize (w1.alloc (.cells (mapC zeroM) 106)).setRow w1.heap.size (mapC firstM) = w2 at *))
    generalize w1.heap.size = gm at *
    clear w1
    go_loopw [5, 7] (fun v i wr => ∃ (n : Nat) (vs : List IvE), n ≤ xs.length + 1 ∧ i = .int .i64 n ∧ ivOf vs = ivPre xs g n ∧ IvOwn wr w.heap.size v vs ∧ FarI gm v vs ∧ Has wr gm 106 (mapC (mapH xs (n - 1))) ∧ Below w.heap.size w wr) (fun _ i _ => xs.length + 1 - (intOf i).toNat)
    case atStart => exact ⟨0, [], by omega, rfl, rfl, IvOwn.nil _ _, FarI.nil _, hM, hb⟩
    case round =>
      clear hM hb
      obtain ⟨n, vs, hn, rfl, hvs, hO, hgm, hM, hb⟩ := hrel
      have hPr := hP.later hb
      have c0 : wr.cell? ⟨p, 0, none⟩ = some (.slice lo xs.length lc) := (hPr.cell 0).trans rfl
      have hlen := ivPre_len xs g n
      rw [← hvs, ivOf_len] at hlen
      by_cases hlt : n ≤ xs.length
      · have hnI : (n : Int) ≤ (xs.length : Int) := by omega
        have hok := okH hgood n hlt
        have hep := epochH xs n hlt
        have hlq : vs.length ≤ 60 := by omega
        by_cases h0 : n = 0
        · subst h0
          have hv0 : vs = [] := List.eq_nil_of_length_eq_zero (by omega)
          subst hv0
          obtain ⟨vo, vc, hv, _⟩ := hO.iv
          have hv : u5 = .slice vo 0 vc := hv
          subst hv
          have hM : Has wr gm 106 (mapC (mapH xs 0)) := hM
          have hnew0 : Hid (ivPre xs g 1 = ivPre xs g 0 ++ [(1, actM (mapH xs 0) g)]) := rfl
          have e0 : ((0 : Nat) : Int) = 0 := rfl
          rw [e0]
          go_wp2_with (first
            | (refine load_map (mapH xs 0) (by rfl) _ rfl gm rfl ?hg ?_; (case hg => exact hM)))
          refine (refacting_fresh (mapH xs 0) g _ hok hg).mono ?_
          rintro e w3 ⟨ao, d, rfl, hAW, hq, hf⟩
          have hap : 0 < (actM (mapH xs 0) g).length → ∀ ad, ao = some ad → (Value.slice vo 0 vc).ownBlock ≠ some ad.block := fun _ ad had e2 => by
            have h1 := (hO.own.lt _ e2).2
            have h2 := hf ad had
            omega
          have hgl := hM.lt
          have hnx : ∀ ad, ao = some ad → gm < ad.block := fun ad had => Nat.lt_of_lt_of_le hgl (hf ad had)
          have hOW := hO.later hq
          have hbW := hb.trans (hq.mono hb.size)
          replace hM := hM.later hq
          have ce := hM.cell 0
          rw [mapC_epoch, hep] at ce
          obtain ⟨q, hqe⟩ : ∃ q, q = 0 + 1 := ⟨_, rfl⟩
          rw [← hqe] at ce
          have hnew : Hid (ivPre xs g q = ivPre xs g 0 ++ [(q, actM (mapH xs 0) g)]) := by subst hqe; exact hnew0.out
          have hqe' : Hid (q = 0 + 1) := hqe
          have hqb : q < 1000 := by omega
          clear hqe hq hf hO hb c0 hPr hep hnew0 hgl
          generalize actM (mapH xs 0) g = A at *
          go_wp2_with (at_builtin; refine wpList_append_own_at _ rfl _ _ 34 rfl w.heap.size 38 i0 (.agg #[.int .u32 0, .slice none 0 0]) 2 32 Try.underlying34 hi hz0 hz1 hz2 rfl (by decide) _ ([] : List IvE).length _ rfl (hOW.own.alloc _) ⟨(w3).heap.size, 0, none⟩ 1 1 (cellsI ⟨q, ao, d, A⟩) rfl rfl (newI _ _ ⟨q, ao, d, A⟩) (oneI _) (by unfold maxLen; omega) (by omega) (by have := hbW.size; simp; omega) ?_)
          intro v' w5 hown5 hgrow _ hat
          have hbs5 := hbW.size
          have hb5 : Below w.heap.size w w5 := (hbW.alloc hbW.size _).grown hgrow (by simp; omega) (fun k hk => (hOW.own.lt k hk).1)
          have hO5 := hOW.snoc (x := ⟨q, ao, d, A⟩) hAW hap hown5 rfl rfl hgrow hat
          have hvs5 : ivOf (([] : List IvE) ++ [⟨q, ao, d, A⟩]) = ivPre xs g q := by rw [ivOf_snoc, hnew.out, hvs]
          have hgmlt := hM.lt
          have hM5 := hM.grown (.cells #[.int .u32 (q : Int), .slice ao (A).length d] 38) hgrow (fun e => hgm.1 gm e rfl)
          have hgm5 := hgm.snoc (x := ⟨q, ao, d, A⟩) hat hgmlt hnx
          clear hown5 hgrow hat hOW hAW hM hgm hnx
          go_wp2
          go_roundw
          case rel => exact ⟨1, _, by omega, by go_num, by rw [hvs5, hqe'.out], hO5, hgm5, hM5, hb5⟩
          case measure => simp [intOf]
        · obtain ⟨j, rfl⟩ : ∃ j, n = j + 1 := ⟨n - 1, by omega⟩
          have hM : Has wr gm 106 (mapC (mapH xs j)) := hM
          have ej : ((j + 1 : Nat) : Int) = (j : Int) + 1 := rfl
          rw [ej] at hnI
          rw [ej]
          have hjl : j < xs.length := by omega
          have hjI : (j : Int) < (xs.length : Int) := by omega
          have hj60 : (j : Int) ≤ 60 := by omega
          cases lo with
          | none => have h1 := hS.nil rfl; omega
          | some la =>
            have hgj := hgood j hjl
            have hokj := okH hgood j (by omega)
            have hst : mapH xs (j + 1) = applyM (mapH xs j) xs[j] := by
              rw [mapH_succ hjl]
              unfold applyM
              rw [hgj.1]
              rfl
            have hxo := hgj.2
            have hci : ∀ W, Below w.heap.size w W → ∀ k v, (incC xs[j]).toList[k]? = some v → W.cell? ((la.add (j * 3)).add k) = some v := fun W hW => incR_at (hS.later hW) j hjl
            have hcP : ∀ W, Below w.heap.size w W → W.cell? ⟨p, 0, none⟩ = some (.slice (some la) xs.length lc) := fun W hW => ((hP.later hW).cell 0).trans rfl
            obtain ⟨l, s, hls⟩ := ivPre_last xs g j
            have hact0 : actH xs (j + 1) g = actM (applyM (mapH xs j) xs[j]) g := by rw [← hst]; rfl
            have hsame : actH xs j g = actM (applyM (mapH xs j) xs[j]) g → ivPre xs g (j + 2) = ivPre xs g (j + 1) := fun h => ivPre_same (by rw [hact0]; exact h)
            have hnew0 : ¬ actH xs j g = actM (applyM (mapH xs j) xs[j]) g → ivPre xs g (j + 2) = ivPre xs g (j + 1) ++ [(j + 2, actM (applyM (mapH xs j) xs[j]) g)] := fun h => by rw [ivPre_new (by rw [hact0]; exact h), hact0]
            rw [hst] at hok hep
            have hst' : Hid _ := hst
            have hsame' : Hid _ := hsame
            have hnew' : Hid _ := hnew0
            clear hgj hst hsame hnew0 hact0 c0 hPr h0 ej hlle hlcap
            generalize xs[j] = x at *
            generalize mapH xs j = m at *
            have hwj : IntKind.i64.wrap (j : Int) = (j : Int) := by
              simp [IntKind.wrap, IntKind.bits, IntKind.signed]
              omega
            go_wp2
            refine wp_region_plan (fun W => Below w.heap.size w W) (Plan.of [(1, true), (2, true), (3, true), (4, true), (5, true), (6, true), (7, true), (8, true), (0, false), (9, false), (10, true), (11, true), (12, true), (13, false)] .done) (by kernel_rfl) (by kernel_rfl) (by kernel_rfl) (by kernel_rfl) hb.drew ?_
            iterate 3
              first
                | (refine plan_pass _ rfl (by rfl) ?_)
                | (refine plan_take _ _ rfl (.inl ⟨by rfl, fun W hS => by clear hS; go_simp; try with_reducible rfl⟩) ?_)
              try simp only [Act.put, List.setIfInBounds_toArray, List.set_cons_zero, List.set_cons_succ]
            iterate 1
              first
                | (refine plan_pass _ rfl (by rfl) ?_)
                | (refine plan_take _ _ rfl (.inl ⟨by rfl, fun W hS => by have z1 := hcP W hS; go_simp; try with_reducible rfl⟩) ?_)
              try simp only [Act.put, List.setIfInBounds_toArray, List.set_cons_zero, List.set_cons_succ]
            iterate 3
              first
                | (refine plan_pass _ rfl (by rfl) ?_)
                | (refine plan_take _ _ rfl (.inl ⟨by rfl, fun W hS => by clear hS; go_simp; try with_reducible rfl⟩) ?_)
              try simp only [Act.put, List.setIfInBounds_toArray, List.set_cons_zero, List.set_cons_succ]
            refine plan_take _ _ rfl (yields_inc_at x (by rfl) _ rfl (la.add (j * 3)) rfl hci) ?_
            try simp only [Act.put, List.setIfInBounds_toArray, List.set_cons_zero, List.set_cons_succ]
            refine plan_run_is _ _ rfl (by rfl) (run_map_on m _ rfl gm rfl hM.drew) hb.drew ?_
            try simp only [Act.put, List.setIfInBounds_toArray, List.set_cons_zero, List.set_cons_succ]
            refine plan_run _ rfl (fun K hK => ?_)
            go_simp
            refine (refapply_any m x _ hokj hxo).mono ?_
            rintro e w3 ⟨rfl, hq⟩
            replace hM := hM.drew.later hq
            have hO3 := (hO.drewN 1).later hq
            have hb3 : Below w.heap.size w w3 := hb.drew.trans (hq.mono hb.size)
            refine hK.out _ _ hb3 ?_
            clear hK K hq hb hO
            iterate 3
              first
                | (refine plan_pass _ rfl (by rfl) ?_)
                | (refine plan_take _ _ rfl (.inl ⟨by rfl, fun W hS => by clear hS; go_simp; try with_reducible rfl⟩) ?_)
              try simp only [Act.put, List.setIfInBounds_toArray, List.set_cons_zero, List.set_cons_succ]
            refine plan_store_has _ rfl (by rfl) 106 _ _ rfl gm rfl (mapC (applyM m x)) rfl 106 (mapC m) (map_size _) (by rw [mapC_size, mapC_size]) (mapC_one _) hM (below_setRow hb3 hbs _) ?_
            try simp only [Act.put, List.setIfInBounds_toArray, List.set_cons_zero, List.set_cons_succ]
            refine plan_done ?_
            have hM4 := hM.row (mapC (applyM m x))
            have hO4 := hO3.setRow hgm (mapC (applyM m x))
            have hb4 := below_setRow hb3 hbs (mapC (applyM m x))
            clear hM hO3 hb3 hci hcP
            generalize w3.setRow gm (mapC (applyM m x)) = w4 at *
            generalize applyM m x = m' at *
            go_wp2_with (first
              | (refine load_map m' (by rfl) _ rfl gm rfl ?hg ?_; (case hg => exact hM4)))
            refine (refacting_fresh m' g _ hok hg).mono ?_
            rintro e w6 ⟨ao, d, rfl, hAW, hq, hf⟩
            have hap : 0 < (actM m' g).length → ∀ ad, ao = some ad → u5.ownBlock ≠ some ad.block := fun _ ad had e2 => by
              have h1 := (hO4.own.lt _ e2).2
              have h2 := hf ad had
              omega
            have hgl := hM4.lt
            have hnx : ∀ ad, ao = some ad → gm < ad.block := fun ad had => Nat.lt_of_lt_of_le hgl (hf ad had)
            have hOW := hO4.later hq
            have hbW := hb4.trans (hq.mono hb4.size)
            have hM := hM4.later hq
            clear hq hf hO4 hb4 hM4 hgl
            obtain ⟨vo, vc, hv, hV⟩ := hOW.iv
            have hvl : vs.length = l.length + 1 := by rw [← ivOf_len, hvs, hls]; simp
            rw [hvs, hls] at hV
            obtain ⟨ad, rfl, cs, bo, dd, cl, hL⟩ := iv_end hV
            have hcap := hV.cap
            have hle := hV.le
            rw [List.length_append, List.length_singleton] at hle
            have hl60 : l.length ≤ 60 := by omega
            have hl6I : (l.length : Int) ≤ 60 := by omega
            rw [hvl] at hv
            subst hv
            have hvl' : Hid (vs.length = l.length + 1) := hvl
            clear hvl hV cs hls
            generalize actM m' g = A at *
            generalize actH xs j g = B at *
            generalize l.length = n0 at *
            have hj1b : ((j : Int) + 1 == 0) = false := by rw [beq_eq_false_iff_ne]; omega
            go_wp2_with fail
            refine (rsame_any bo ao dd d B A w6 hL hAW).mono ?_
            rintro e w7 ⟨rfl, nn, hw7⟩
            replace hAW : Ix w7 ao d A := hw7 ▸ hAW.drewN nn
            replace hOW : IvOwn w7 w.heap.size (.slice (some ad) (n0 + 1) vc) vs := hw7 ▸ hOW.drewN nn
            replace hbW : Below w.heap.size w w7 := hw7 ▸ ⟨hbW.os, hbW.tape, hbW.output, hbW.size, hbW.block⟩
            replace hM : Has w7 gm 106 (mapC m') := hw7 ▸ hM.drewN nn
            clear hL cl hw7
            by_cases hAB : B = A
            · have hd : decide (B = A) = true := decide_eq_true hAB
              have hsm : Hid (ivPre xs g (j + 2) = ivPre xs g (j + 1)) := hsame'.out hAB
              rw [hd]
              clear hAB hd
              go_wp2
              go_roundw
              case rel => exact ⟨j + 2, vs, by omega, by go_num, by rw [hsm.out, hvs], hOW, hgm, by rw [show j + 2 - 1 = j + 1 from rfl, hst'.out]; exact hM, hbW⟩
              case measure => simp [intOf]; omega
            · have hd : decide (B = A) = false := decide_eq_false hAB
              have hnw := hnew'.out hAB
              have ce := hM.cell 0
              rw [mapC_epoch, hep] at ce
              obtain ⟨q, hqe⟩ : ∃ q, q = j + 1 + 1 := ⟨_, rfl⟩
              rw [← hqe] at ce
              have hnew : Hid (ivPre xs g q = ivPre xs g (j + 1) ++ [(q, A)]) := by subst hqe; exact hnw
              have hqe' : Hid (q = j + 1 + 1) := hqe
              have hqb : q < 1000 := by omega
              rw [hd]
              clear hAB hd hnw hqe hep
              go_wp2_with (at_builtin; refine wpList_append_own_at _ rfl _ _ 34 rfl w.heap.size 38 i0 (.agg #[.int .u32 0, .slice none 0 0]) 2 32 Try.underlying34 hi hz0 hz1 hz2 rfl (by decide) _ (vs).length _ rfl (hOW.own.alloc _) ⟨(w7).heap.size, 0, none⟩ 1 1 (cellsI ⟨q, ao, d, A⟩) rfl rfl (newI _ _ ⟨q, ao, d, A⟩) (oneI _) (by unfold maxLen; omega) (by omega) (by have := hbW.size; simp; omega) ?_)
              intro v' w5 hown5 hgrow _ hat
              have hbs5 := hbW.size
              have hb5 : Below w.heap.size w w5 := (hbW.alloc hbW.size _).grown hgrow (by simp; omega) (fun k hk => (hOW.own.lt k hk).1)
              have hO5 := hOW.snoc (x := ⟨q, ao, d, A⟩) hAW hap hown5 rfl rfl hgrow hat
              have hvs5 : ivOf ((vs) ++ [⟨q, ao, d, A⟩]) = ivPre xs g q := by rw [ivOf_snoc, hnew.out, hvs]
              have hgmlt := hM.lt
              have hM5 := hM.grown (.cells #[.int .u32 (q : Int), .slice ao (A).length d] 38) hgrow (fun e => hgm.1 gm e rfl)
              have hgm5 := hgm.snoc (x := ⟨q, ao, d, A⟩) hat hgmlt hnx
              clear hown5 hgrow hat hOW hAW hM hgm hnx
              go_wp2
              go_roundw
              case rel => exact ⟨j + 2, _, by omega, by go_num, by rw [hvs5, hqe'.out], hO5, hgm5, by rw [show j + 2 - 1 = j + 1 from rfl, hst'.out]; exact hM5, hb5⟩
              case measure => simp [intOf]; omega
      · have e1 : n = xs.length + 1 := by omega
        have hnI : (xs.length : Int) < (n : Int) := by omega
        obtain ⟨vo, vc, rfl, hV⟩ := hO.iv
        rw [hvs, e1, ← hyes.out] at hV
        have hln : Hid (vs.length = (ivals xs g).length) := by show _ = _; rw [← ivOf_len, hvs, e1, ← hyes.out]
        clear e1
        go_wp2
        go_ret
        exact ⟨vo, vc, by rw [← hln.out]; rfl, hV, hb⟩

theorem now_iv {xs : List IncV} {g : Nat} (h : g < 4) : ∃ l s, ivals xs g = l ++ [(s, nowH xs g)] ∧ sinceH xs g = s := by
  obtain ⟨l, s, hl, _, _⟩ := ivTo_last xs g xs.length
  have hi : ivals xs g = l ++ [(s, nowH xs g)] := by rw [now_is]; unfold ivals; rw [if_pos h, hl]
  refine ⟨l, s, hi, ?_⟩
  unfold sinceH
  rw [hi]
  simp

theorem iv_row {w : World} {ao : Option Addr} {c : Nat} {l : List (Nat × List Int)} {s : Nat} {a : List Int} (h : Iv w ao c (l ++ [(s, a)])) :
    ∃ ad bo dd, ao = some ad ∧ (∀ j v, [Value.int .u32 (s : Nat), .slice bo a.length dd][j]? = some v → w.cell? ((ad.add (l.length * 2)).add j) = some v) ∧ Ix w bo dd a := by
  have hl : l.length < (l ++ [(s, a)]).length := by simp
  have hle := h.le
  cases ao with
  | none => have := h.nil rfl; omega
  | some ad =>
    have h1 := h.at' ad rfl l.length hl
    have he : (l ++ [(s, a)])[l.length] = (s, a) := by simp
    rw [he] at h1
    obtain ⟨h1, bo, dd, h2, h3⟩ := h1
    refine ⟨ad, bo, dd, rfl, fun j v hj => ?_, h3⟩
    rw [Go.Deep.add_add]
    match j, hj with
    | 0, hj => rw [Nat.add_zero, h1]; simpa using hj
    | 1, hj => rw [h2]; simpa using hj
    | j + 2, hj => simp at hj

/-- A list of int lies in no block that holds none. -/
theorem Ix.far {w : World} {ad : Addr} {d g : Nat} {A : List Int} {t : TypeId} {c : Array Value} (h : Ix w (some ad) d A) (h0 : 0 < A.length) (hg : Has w g t c) (hc : ∀ (j : Nat) (x : Int), c[j]? ≠ some (Value.int .i64 x)) : ad.block ≠ g := by
  intro e
  have h1 := h.at' ad rfl 0 h0
  have e0 : ad.add 0 = ad := by cases ad; simp [Addr.add]
  rw [e0] at h1
  unfold Has at hg
  unfold World.cell? at h1
  rw [e, hg] at h1
  simp only at h1
  split at h1
  · cases h1
  · exact hc _ _ h1

theorem Ix.setRow {w : World} {bo : Option Addr} {d g : Nat} {A : List Int} {t : TypeId} {c : Array Value} (h : Ix w bo d A) (hg : Has w g t c) (hc : ∀ (j : Nat) (x : Int), c[j]? ≠ some (Value.int .i64 x)) (c' : Array Value) : Ix (w.setRow g c') bo d A :=
  h.grown (row := some g) ⟨rfl, rfl, rfl, by simp [World.setRow], fun k hk hn => setRow_other w g k c' (fun e => hn (by rw [e]))⟩ (fun h0 ad had e => by
    subst had
    exact h.far h0 hg hc (Option.some.inj e).symm)

theorem iv_cells0 : ∀ (j : Nat) (x : Int), (#[Value.int .u32 0, .slice none 0 0])[j]? ≠ some (Value.int .i64 x) := by
  intro j x h
  match j, h with
  | 0, h => simp at h
  | 1, h => simp at h
  | j + 2, h => simp at h

theorem iv_size (a b : Value) : (Try.prog.info? 38).map (·.size) = some (#[a, b] : Array Value).size := by
  show _ = some 2
  kernel_rfl
theorem iv_zero : (Try.prog.info? 38).map (·.zero) = some (some (.agg #[.int .u32 0, .slice none 0 0])) := by kernel_rfl

set_option maxHeartbeats 2000000 in
theorem rnow_any (p : Nat) (lo : Option Addr) (lc : Nat) (xs : List IncV) (g : Nat) (w : World) (hP : Has w p 81 #[.slice lo xs.length lc]) (hS : Sl w lo lc 3 (incR xs)) (hgood : Good xs) (hg : g < 256) :
    Calls Try.prog 22 #[ptr p, .int .u8 g] w fun en w' => ∃ ao d, en = .returned (.agg #[.int .u32 (sinceH xs g : Nat), .slice ao (nowH xs g).length d]) ∧ Ix w' ao d (nowH xs g) ∧ Below w.heap.size w w' := by
  have hpt : ptr p = .pointer (some ⟨p, 0, none⟩) := rfl
  have hl := lenH hgood
  have hb0 := (Below.refl w.heap.size w).alloc (Nat.le_refl _) (.cells #[.int .u32 0, .slice none 0 0] 38)
  have hR0 := Has.new w 38 #[.int .u32 0, .slice none 0 0]
  have hiv := rint_any p lo lc xs g _ (hP.later hb0) (hS.later hb0) hgood hg
  rw [hpt] at hiv
  rw [hpt]
  go_enter Try.func22, Try.ntmps22
  go_wp2_with (first
    | (refine wpList_alloc_has (by rfl) 38 rfl #[.int .u32 0, .slice none 0 0] iv_zero ?_))
  refine hiv.mono ?_
  rintro e w1 ⟨ao, d, rfl, hV, hq⟩
  have hR := hR0.later hq
  have hb := hb0.trans (hq.mono hb0.size)
  clear hiv hq hR0 hb0
  have hcap := hV.cap
  have hle := hV.le
  by_cases hg4 : g < 4
  · obtain ⟨l, s, hi, hs⟩ := now_iv (xs := xs) hg4
    have hs' : Hid (sinceH xs g = s) := hs
    have hln : l.length ≤ 60 := by
      have h1 : (ivals xs g).length ≤ xs.length + 1 := by unfold ivals; rw [if_pos hg4]; exact ivTo_len xs g _
      rw [hi] at h1
      simp at h1
      omega
    rw [hi] at hV hle
    rw [hi, List.length_append, List.length_singleton]
    rw [List.length_append, List.length_singleton] at hle
    obtain ⟨ad, bo, dd, rfl, hrow, hI⟩ := iv_row hV
    have hlI : (l.length : Int) ≤ 60 := by omega
    clear hs hi hV hg4
    generalize l.length = n0 at *
    have hc1 : (#[Value.int .u32 (s : Nat), .slice bo (nowH xs g).length dd]).all (·.oneCell') = true := by simp [Value.oneCell']
    go_wp2_with (first
      | (refine wpList_load_any (by rfl) 38 _ rfl (ad.add (n0 * 2)) rfl [.int .u32 (s : Nat), .slice bo (nowH xs g).length dd] _ hrow Try.underlying38 rfl (iv_size _ _) ?_)
      | (refine wpList_store_has (by rfl) 38 _ _ rfl w.heap.size rfl #[.int .u32 (s : Nat), .slice bo (nowH xs g).length dd] rfl 38 #[.int .u32 0, .slice none 0 0] (iv_size _ _) rfl hc1 hR ?_))
    exact ret_has rfl w.heap.size rfl 38 #[.int .u32 (s : Nat), .slice bo (nowH xs g).length dd] _ Try.underlying38 rfl (iv_size _ _) (hR.row _) rfl ⟨bo, dd, by rw [hs'.out], hI.setRow hR iv_cells0 _, below_setRow hb (Nat.le_refl _) _⟩
  · have hno : ivals xs g = [] := if_neg hg4
    have hs : Hid (sinceH xs g = 0) := by show _ = _; unfold sinceH; rw [hno]; rfl
    have hnw : Hid (nowH xs g = []) := if_neg hg4
    rw [hno]
    clear hno hV hg4 hle
    have hc1 : (#[Value.int .u32 0, .slice none 0 0]).all (·.oneCell') = true := by simp [Value.oneCell']
    have hbt : Try.prog.built 38 [] = some #[.int .u32 0, .slice none 0 0] := by kernel_rfl
    go_wp2_with (first
      | (refine wpList_build_has (by rfl) 38 #[] rfl #[.int .u32 0, .slice none 0 0] (by simpa using hbt) ?_)
      | (refine wpList_store_has (by rfl) 38 _ _ rfl w.heap.size rfl #[.int .u32 0, .slice none 0 0] rfl 38 #[.int .u32 0, .slice none 0 0] (iv_size _ _) rfl hc1 hR ?_))
    exact ret_has rfl w.heap.size rfl 38 #[.int .u32 0, .slice none 0 0] _ Try.underlying38 rfl (iv_size _ _) (hR.row _) rfl ⟨none, 0, by rw [hs.out, hnw.out]; rfl, by rw [hnw.out]; exact Ix.nothing _, below_setRow hb (Nat.le_refl _) _⟩
end Go.Proofs.Ytlbokkbngbpmiaa
