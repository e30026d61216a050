/- The contracts of the document's Lacks and Enough; of the law's few. -/
import Derived.Test.YtlbokkbngbpmiaaRefBest9
import Derived.Test.YtlbokkbngbpmiaaChooseIv
import Derived.Test.YtlbokkbngbpmiaaChooseFacts
import Derived.Test.YtlbokkbngbpmiaaRefIv
import Derived.Test.YtlbokkbngbpmiaaRefAdd
namespace Go.Proofs.Ytlbokkbngbpmiaa
set_option linter.unusedSimpArgs false
set_option linter.unusedVariables false
set_option maxRecDepth 100000
open Go.RowKit

theorem add_more (ad : Addr) (a b : Nat) (hb : b ≠ 0) : ad.add (a + b) = ⟨(ad.add a).block, (ad.add a).off + b, none⟩ := by
  unfold Addr.add
  by_cases h : a = 0
  · subst h; simp [hb]
  · simp [h, hb, Nat.add_assoc]
theorem fld9 (ad : Addr) (n : Nat) : ad.add (n * 2 + 1) = ⟨(ad.add (n * 2)).block, (ad.add (n * 2)).off + 1, none⟩ := fld_add ad (n * 2)
theorem IvS.cell0 {w : World} {ad : Addr} {c : Nat} {vs : List IvE} (h : IvS w (some ad) c vs) (n : Nat) (hn : n < vs.length) : w.cell? (ad.add (n * 2)) = some (.int .u32 (vs[n].s : Int)) := by
  have := h.row n hn 0 _ rfl
  have e0 : (ad.add (n * 2)).add 0 = ad.add (n * 2) := by unfold Addr.add; simp
  rw [e0] at this
  exact this
theorem IvS.cell1 {w : World} {ad : Addr} {c : Nat} {vs : List IvE} (h : IvS w (some ad) c vs) (n : Nat) (hn : n < vs.length) : w.cell? ⟨(ad.add (n * 2)).block, (ad.add (n * 2)).off + 1, none⟩ = some (.slice vs[n].ao vs[n].l.length vs[n].c) := by
  have := h.row n hn 1 _ rfl
  have e0 : (ad.add (n * 2)).add 1 = ⟨(ad.add (n * 2)).block, (ad.add (n * 2)).off + 1, none⟩ := by unfold Addr.add; simp
  rw [e0] at this
  exact this

theorem wpList_load_iv {ops : Array Oper} {rest : List Oper} {o : Oper} {a : Act} {w : World} {Q : Exit → Act → World → Prop} (v : IvE) (hw : Region.wanted o (yielded ops a.tmps) = true) (x : Operand) (ho : o.op = .load 38 x) (A : Addr) (hx : a.eval x = .pointer (some A)) (hc : ∀ j u, (cellsI v)[j]? = some u → w.cell? (A.add j) = some u)
    (h : wpList Try.prog ops Q rest (a.put o.dst (.agg (ivA v))) w) : wpList Try.prog ops Q (o :: rest) a w :=
  wpList_load_any hw 38 x ho A hx (cellsI v) _ hc Try.underlying38 rfl (ivA_size v) h
set_option maxHeartbeats 8000000 in
theorem refLacks_any {w : World} {r : Nat} {xs : List IncV} {G : Nat → Prop} (g : Nat) (ho : Option Addr) (hc : Nat) (hs : List Int) (s : Nat) (hR : IsR w r xs G) (hg : g < 256) (hx : Ix w ho hc hs) (hh : hs.length ≤ 1000000) (hs4 : s < 4294967296) :
    Calls Try.prog 17 #[ptr r, .int .u8 g, .slice ho hs.length hc, .int .u32 (s : Int)] w fun en w' => ∃ ro rc, en = .returned (.slice ro (lacksM (ivals xs g) hs s).length rc) ∧ Iv w' ro rc (lacksM (ivals xs g) hs s) ∧ Below w.heap.size w w' := by
  obtain ⟨i0, hi, hz0, hz1, hz2⟩ := info_parts Try.infoIv
  obtain ⟨hgood, lo, lc, hP, hSl⟩ := isR_get hR
  have hl59 := lenH hgood
  have hint := rint_any r lo lc xs g w hP hSl hgood hg
  have hpt : ptr r = .pointer (some ⟨r, 0, none⟩) := rfl
  rw [hpt] at hint
  rw [hpt]
  have hhc := hx.cap
  have hhl := hx.le
  have hF0 : Hid (lacksM (ivals xs g) hs s = ((ivals xs g).take ((ivals xs g).length - 1)).filter (lackB hs s)) := by show List.filter _ _ = _; rw [List.dropLast_eq_take]
  clear hP hSl
  go_enter Try.func17, Try.ntmps17
  go_wp2_with fail
  refine hint.mono ?_
  rintro e w1 ⟨ao, c, rfl, hV, hb⟩
  obtain ⟨us, hus, hS⟩ := hV.rows
  have hok := ivE_ok hus hl59
  have hul : us.length ≤ 60 := by have := ivals_len xs g; rw [← hus, ivOf_len] at this; omega
  rw [show (ivals xs g).length = us.length by rw [← hus, ivOf_len]]
  have hF : Hid (lacksM (ivals xs g) hs s = ((ivOf us).take (us.length - 1)).filter (lackB hs s)) := by show _ = _; rw [hF0.out, ← hus, ivOf_len]
  clear hF0
  have hcap := hS.sl.cap
  have hle := hS.len
  have hx1 := hx.later hb
  clear hint hV hus
  go_wp2
  go_loopw [10, 11] (fun v i wr => ∃ (n : Nat) (ows : List IvE), n ≤ us.length - 1 ∧ i = .int .i64 n ∧ ivOf ows = ((ivOf us).take n).filter (lackB hs s) ∧ IvOwn wr w1.heap.size v ows ∧ Below w1.heap.size w1 wr) (fun _ i _ => us.length - (intOf i).toNat)
  case atStart => exact ⟨0, [], Nat.zero_le _, rfl, rfl, IvOwn.nil _ _, Below.refl _ _⟩
  case round =>
    obtain ⟨n, ows, hn, rfl, hows, hO, hbn⟩ := hrel
    by_cases hlt : n + 1 < us.length
    · have hnI : (n : Int) + 1 < (us.length : Int) := by omega
      have hnI' : (n : Int) < (us.length : Int) := by omega
      have hnu : n < us.length := by omega
      have hlt' : n < (ivOf us).length := by rw [ivOf_len]; exact hnu
      have hol : ows.length ≤ n := by
        have := congrArg List.length hows
        rw [ivOf_len] at this
        have h2 := List.length_filter_le (lackB hs s) ((ivOf us).take n)
        rw [List.length_take] at h2
        omega
      have hf := filter_take_succ (lackB hs s) (ivOf us) n hlt'
      rw [show (ivOf us)[n] = (us[n].s, us[n].l) by simp [ivOf]] at hf
      have hf' : Hid _ := hf
      cases ao with
      | none => have h1 := hS.sl.nil rfl; omega
      | some ad =>
        have c0 := (hS.later hbn).cell0 n hnu
        have c1 := (hS.later hbn).cell1 n hnu
        have hrow := (hS.later hbn).row n hnu
        have hxn := hok us[n] (List.getElem_mem hnu)
        have hix0 := hS.ix us[n] (List.getElem_mem hnu)
        have hix := hix0.later hbn
        clear hf hlt'
        generalize us[n] = x at *
        have hxl := hxn.len
        have hxs := hxn.s
        have hxc := hix.cap
        have hxle := hix.le
        have hlk : Hid (lackB hs s (x.s, x.l) = ((decide (2 ≤ x.l.length) && decide (s ≤ x.s)) && !(x.l.any (hrd hs)))) := rfl
        have hcont : Hid (lackB hs s (x.s, x.l) = false → ivOf ows = ((ivOf us).take (n + 1)).filter (lackB hs s)) := fun h => by rw [hf'.out, h, hows]; simp
        have hadd : Hid (lackB hs s (x.s, x.l) = true → ivOf (ows ++ [x]) = ((ivOf us).take (n + 1)).filter (lackB hs s)) := fun h => by rw [hf'.out, h, ivOf_snoc, hows]; simp
        clear hf' hows
        by_cases h2 : 2 ≤ x.l.length
        · have h2I : (2 : Int) ≤ (x.l.length : Int) := by omega
          have hixx := hix
          obtain ⟨xd, hxo⟩ : ∃ xd, x.ao = some xd := by
            cases hxo : x.ao with
            | none => rw [hxo] at hix; have := hix.nil rfl; omega
            | some xd => exact ⟨xd, rfl⟩
          rw [hxo] at c1 hix
          replace hxo : Hid (x.ao = some xd) := hxo
          by_cases h3 : s ≤ x.s
          · have d1 : decide ((x.l.length : Int) < 2) = false := decide_eq_false (by omega)
            have d2 : decide ((x.s : Int) < (s : Int)) = false := decide_eq_false (by omega)
            have d3 : decide (x.s < s) = false := decide_eq_false (by omega)
            have d4 : decide (x.l.length < 2) = false := decide_eq_false (by omega)
            rw [decide_eq_true h2, decide_eq_true h3] at hlk
            clear h2 h2I h3
            obtain ⟨W2, hW2⟩ : ∃ W2, W2 = wr := ⟨_, rfl⟩
            subst hW2
            have hxW := hx1.later hbn
            go_wp2
            go_loopw [12, 13] (fun bv kv wz => ∃ k : Nat, k ≤ x.l.length ∧ kv = .int .i64 k ∧ bv = .bool ((x.l.take k).any (hrd hs)) ∧ wz = W2) (fun _ kv _ => x.l.length - (intOf kv).toNat)
            case atStart => exact ⟨0, Nat.zero_le _, rfl, rfl, rfl⟩
            case round =>
              obtain ⟨k, hk, rfl, rfl, hwz⟩ := hrel
              replace hwz := hwz.symm
              subst hwz
              by_cases hkl : k < x.l.length
              · have hkI : (k : Int) < (x.l.length : Int) := by omega
                have hnext : Hid ((x.l.take (k + 1)).any (hrd hs) = ((x.l.take k).any (hrd hs) || hrd hs x.l[k])) := by
                  show _ = _
                  rw [List.take_succ_eq_append_getElem hkl, List.any_append]
                  simp
                · have cz := hix.at' xd rfl k hkl
                  generalize x.l[k] = z at *
                  cases hbv : (x.l.take k).any (hrd hs) with
                  | true =>
                    rw [hbv] at hnext
                    go_wp2
                    go_roundw
                    case rel => first | exact ⟨k + 1, by omega, by go_num, by rw [hnext.out]; rfl, rfl⟩ | exact ⟨k + 1, by omega, by go_num, by rw [hnext.out]; rfl, trivial⟩ | exact ⟨k + 1, by omega, by go_num, by rw [hnext.out]; rfl⟩
                    case measure => simp [intOf]; omega
                  | false =>
                    rw [hbv] at hnext
                    go_wp2_with fail
                    refine (refin_any ho hc hs z _ hxW hh).mono ?_
                    rintro e w5 ⟨rfl, hw5⟩
                    replace hw5 := hw5.symm
                    subst hw5
                    generalize hrd hs z = bz at *
                    go_wp2
                    go_roundw
                    case rel => first | exact ⟨k + 1, by omega, by go_num, by rw [hnext.out]; rfl, rfl⟩ | exact ⟨k + 1, by omega, by go_num, by rw [hnext.out]; rfl, trivial⟩ | exact ⟨k + 1, by omega, by go_num, by rw [hnext.out]; rfl⟩
                    case measure => simp [intOf]; omega
              · have hkk : k = x.l.length := by omega
                subst hkk
                rw [List.take_length]
                cases hbv : x.l.any (hrd hs) with
                | true =>
                  rw [hbv] at hlk
                  have hnx : Hid _ := hcont.out hlk.out
                  clear hcont hadd hlk
                  go_wp2
                  go_roundw
                  case rel => exact ⟨n + 1, ows, by omega, by go_num, hnx.out, hO, hbn⟩
                  case measure => simp [intOf]; omega
                | false =>
                  rw [hbv] at hlk
                  have hnx : Hid _ := hadd.out hlk.out
                  clear hcont hadd hlk
                  have hsz : (ivA x).size = 2 := rfl
                  have hap : 0 < x.l.length → ∀ ad, x.ao = some ad → u10.ownBlock ≠ some ad.block := fun h0 ad had e2 => by
                    have h1 := (hO.own.lt _ e2).1
                    rw [had] at hix0
                    have h2 := hix0.lt h0
                    omega
                  go_wp2_with (first
                    | (refine wpList_load_iv x (by rfl) _ rfl (ad.add (n * 2)) rfl ?hg ?_; (case hg => exact hrow))
                    | (at_builtin; refine wpList_append_own_at _ rfl _ _ 34 rfl w1.heap.size 38 i0 (.agg #[.int .u32 0, .slice none 0 0]) 2 32 Try.underlying34 hi hz0 hz1 hz2 rfl (by decide) _ ows.length _ rfl (hO.own.alloc _) ⟨W2.heap.size, 0, none⟩ 1 1 (cellsI x) rfl rfl (newA _ _ x) (oneI _) (by unfold maxLen; omega) (by omega) (by have := hbn.size; simp; omega) ?_))
                  intro v' w5 hown5 hgrow _ hat
                  have hbs5 := hbn.size
                  have hb5 : Below w1.heap.size w1 w5 := (hbn.alloc hbn.size _).grown hgrow (by simp; omega) (fun k hk => (hO.own.lt k hk).1)
                  have hO5 := hO.snoc (x := x) hixx hap hown5 rfl rfl hgrow hat
                  clear hown5 hgrow hat hO
                  go_wp2
                  go_roundw
                  case rel => exact ⟨n + 1, ows ++ [x], by omega, by go_num, hnx.out, hO5, hb5⟩
                  case measure => simp [intOf]; omega
          · have h3I : (x.s : Int) < (s : Int) := by omega
            rw [decide_eq_true h2, decide_eq_false h3] at hlk
            have hnx : Hid _ := hcont.out hlk.out
            clear hcont hadd hlk
            go_wp2
            go_roundw
            case rel => exact ⟨n + 1, ows, by omega, by go_num, hnx.out, hO, hbn⟩
            case measure => simp [intOf]; omega
        · have h2I : (x.l.length : Int) < 2 := by omega
          rw [decide_eq_false h2] at hlk
          have hnx : Hid _ := hcont.out hlk.out
          clear hcont hadd hlk
          go_wp2
          go_roundw
          case rel => exact ⟨n + 1, ows, by omega, by go_num, hnx.out, hO, hbn⟩
          case measure => simp [intOf]; omega
    · have hnI : (us.length : Int) ≤ (n : Int) + 1 := by omega
      have hn' : n = us.length - 1 := by omega
      obtain ⟨vo, vc, rfl, hV⟩ := hO.iv
      rw [hn', ← hF.out] at hows
      have hll : Hid (ows.length = (lacksM (ivals xs g) hs s).length) := by show _ = _; rw [← hows, ivOf_len]
      rw [hows] at hV
      clear hows hn' hF
      go_wp2
      go_ret
      exact ⟨vo, vc, by rw [← hll.out]; rfl, hV, hb.trans (hbn.mono hb.size)⟩

theorem lacks_none {V : List (Nat × List Int)} {hs : List Int} {s : Nat} (h : (lacksM V hs s).length = 0) : V.dropLast.any (lackB hs s) = false := by
  have h0 : lacksM V hs s = [] := List.eq_nil_of_length_eq_zero h
  unfold lacksM at h0
  rw [List.filter_eq_nil_iff] at h0
  rw [← Bool.not_eq_true, List.any_eq_true]
  rintro ⟨v, hv, hb⟩
  exact h0 v hv hb
theorem lacks_some {V : List (Nat × List Int)} {hs : List Int} {s : Nat} (h : 0 < (lacksM V hs s).length) : enoughM V hs s = false := by
  unfold enoughM
  have : V.dropLast.any (lackB hs s) = true := by
    obtain ⟨v, hv⟩ := List.exists_mem_of_length_pos h
    exact List.any_eq_true.2 ⟨v, (List.mem_filter.1 hv).1, (List.mem_filter.1 hv).2⟩
  rw [this]
  rfl

theorem fld_act9 (s : Int) (bo : Option Addr) (n d : Nat) (W : World) : (Instr.field 38 (.agg #[.int .u32 s, .slice bo n d]) 1).run Try.prog W = .ok (.slice bo n d) W := by kernel_rfl
set_option maxHeartbeats 4000000 in
theorem refEnough_any {w : World} {r : Nat} {xs : List IncV} {G : Nat → Prop} (g : Nat) (ho : Option Addr) (hc : Nat) (hs : List Int) (s : Nat) (hR : IsR w r xs G) (hg : g < 256) (hx : Ix w ho hc hs) (hh : hs.length ≤ 1000000) (hs4 : s < 4294967296) :
    Calls Try.prog 20 #[ptr r, .int .u8 g, .slice ho hs.length hc, .int .u32 (s : Int)] w fun en w' => en = .returned (.bool (enoughM (ivals xs g) hs s)) ∧ Below w.heap.size w w' := by
  have hpt : ptr r = .pointer (some ⟨r, 0, none⟩) := rfl
  have hlk := refLacks_any g ho hc hs s hR hg hx hh hs4
  rw [hpt] at hlk
  rw [hpt]
  have hne : Hid (0 < (lacksM (ivals xs g) hs s).length → enoughM (ivals xs g) hs s = false) := lacks_some
  have heq : Hid ((lacksM (ivals xs g) hs s).length = 0 → enoughM (ivals xs g) hs s = !((nowH xs g).any fun x => !hrd hs x)) := fun h => by
    show (!(List.any _ _) && !(List.any _ _)) = _
    rw [lacks_none h, ivals_now]
    rfl
  have hll : (lacksM (ivals xs g) hs s).length ≤ 60 := by
    have h1 := List.length_filter_le (lackB hs s) (ivals xs g).dropLast
    have h2 := ivals_len xs g
    have h3 := lenH (isR_get hR).1
    rw [List.length_dropLast] at h1
    show (List.filter _ _).length ≤ 60
    omega
  generalize lacksM (ivals xs g) hs s = L at *
  obtain ⟨ln, hln⟩ : ∃ ln, L.length = ln := ⟨_, rfl⟩
  rw [hln] at hlk hne heq hll
  clear hln
  go_enter Try.func20, Try.ntmps20
  go_wp2_with fail
  refine hlk.mono ?_
  rintro e w1 ⟨ro, rc, rfl, hI, hb⟩
  have hIc := hI.cap
  clear hlk hI
  by_cases hl0 : 0 < ln
  · have hl0I : (0 : Int) < (ln : Int) := by omega
    have hF : Hid _ := hne.out hl0
    go_wp2
    go_ret
    exact ⟨by rw [hF.out]; rfl, hb⟩
  · have hF : Hid _ := heq.out (by omega)
    obtain rfl : ln = 0 := by omega
    have hR1 := isR_later hR hb
    obtain ⟨hgood, lo, lc, hP, hSl⟩ := isR_get hR1
    have hnw := rnow_any r lo lc xs g w1 hP hSl hgood hg
    rw [hpt] at hnw
    have hnl : (nowH xs g).length ≤ 3 := by rw [now_is]; exact (actM_mem _ g).2
    clear hne heq hl0 hP hSl hR1
    go_wp2_with fail
    refine hnw.mono ?_
    rintro e w2 ⟨no, nc, rfl, hN, hq⟩
    replace hb := hb.trans (hq.mono hb.size)
    clear hq hnw
    have hx2 := hx.later hb
    generalize nowH xs g = A at *
    have hNc := hN.cap
    have hNl := hN.le
    have hfld := fun W => fld_act9 (sinceH xs g : Nat) no A.length nc W
    go_wp2
    go_loopw [10] (fun i wr => ∃ n : Nat, n ≤ A.length ∧ i = .int .i64 n ∧ (A.take n).any (fun x => !hrd hs x) = false ∧ wr = w2) (fun i _ => A.length - (intOf i).toNat)
    case atStart => exact ⟨0, Nat.zero_le _, rfl, rfl, rfl⟩
    case round =>
      obtain ⟨n, hn, rfl, hno, hwz⟩ := hrel
      replace hwz := hwz.symm
      subst hwz
      by_cases hlt : n < A.length
      · have hnI : (n : Int) < (A.length : Int) := by omega
        cases no with
        | none => have h1 := hN.nil rfl; omega
        | some nd =>
          have cx := hN.at' nd rfl n hlt
          have hnext : Hid ((fun x => !hrd hs x) A[n] = false → (A.take (n + 1)).any (fun x => !hrd hs x) = false) := fun h => any_take_succ _ A n hlt hno h
          have hfound : Hid ((fun x => !hrd hs x) A[n] = true → A.any (fun x => !hrd hs x) = true) := fun h => any_at _ A n hlt h
          clear hno
          generalize A[n] = z at *
          go_wp2_with fail
          refine (refin_any ho hc hs z _ hx2 hh).mono ?_
          rintro e w5 ⟨rfl, hw5⟩
          replace hw5 := hw5.symm
          subst hw5
          cases hz : hrd hs z with
          | true =>
            have hnx : Hid _ := hnext.out (by show (!hrd hs z) = false; rw [hz]; rfl)
            go_wp2
            go_roundw
            case rel => first | exact ⟨n + 1, by omega, by go_num, hnx.out, rfl⟩ | exact ⟨n + 1, by omega, by go_num, hnx.out, trivial⟩ | exact ⟨n + 1, by omega, by go_num, hnx.out⟩
            case measure => simp [intOf]; omega
          | false =>
            have hfd : Hid _ := hfound.out (by show (!hrd hs z) = true; rw [hz]; rfl)
            go_wp2
            go_ret
            exact ⟨by rw [hF.out, hfd.out]; rfl, hb⟩
      · have e : n = A.length := by omega
        subst e
        rw [List.take_length] at hno
        have hno' : Hid _ := hno
        clear hno
        go_wp2
        go_ret
        exact ⟨by rw [hF.out, hno'.out]; rfl, hb⟩

/-- What the law's few tells. -/
def fewB (xs : List StE) : Bool := (xs.all fun x => decide (x.st.log.length ≤ 12)) && decide (xs.length ≤ 8)
set_option maxHeartbeats 4000000 in
theorem few9_any (ao : Option Addr) (c : Nat) (xs : List StE) (w : World) (h : Sl w ao c 49 (rowsS xs)) (hlg : ∀ x ∈ xs, x.st.log.length ≤ 9223372036854775807) (hl : xs.length ≤ 9223372036854775807) :
    Calls Try.prog 10 #[.slice ao xs.length c] w fun en w' => en = .returned (.bool (fewB xs)) ∧ w' = w := by
  have hcap := h.cap
  have hle := h.le
  rw [rowsS_len] at hle
  have hfb : Hid (fewB xs = ((xs.all fun x => decide (x.st.log.length ≤ 12)) && decide (xs.length ≤ 8))) := rfl
  go_enter Try.func10, Try.ntmps10
  go_wp2
  go_loopw [3] (fun i wr => ∃ n : Nat, n ≤ xs.length ∧ i = .int .i64 n ∧ (∀ k (hk : k < xs.length), k < n → xs[k].st.log.length ≤ 12) ∧ wr = w) (fun i _ => xs.length - (intOf i).toNat)
  case atStart => exact ⟨0, Nat.zero_le _, rfl, (fun k hk h0 => absurd h0 (by omega)), rfl⟩
  case round =>
    obtain ⟨n, hn, rfl, hall, hwz⟩ := hrel
    replace hwz := hwz.symm
    subst hwz
    by_cases hlt : n < xs.length
    · have hnI : (n : Int) < (xs.length : Int) := by omega
      cases ao with
      | none => have h1 := h.nil rfl; omega
      | some ad =>
        have cx := h.at' ad rfl n (by rw [rowsS_len]; exact hlt) 48 (by decide)
        rw [show (rowsS xs)[n]'(by rw [rowsS_len]; exact hlt) = stL xs[n].st xs[n].ao xs[n].c by simp [rowsS]] at cx
        have e0 := add_more ad (n * 49) 48 (by decide)
        rw [e0] at cx
        replace cx : w.cell? ⟨(ad.add (n * 49)).block, (ad.add (n * 49)).off + 48, none⟩ = some (.slice xs[n].ao xs[n].st.log.length xs[n].c) := cx
        have hlgn := hlg xs[n] (List.getElem_mem hlt)
        by_cases h12 : xs[n].st.log.length ≤ 12
        · have hnx : Hid (∀ k (hk : k < xs.length), k < n + 1 → xs[k].st.log.length ≤ 12) := fun k hk hkn => by
            by_cases e : k < n
            · exact hall k hk e
            · obtain rfl : k = n := by omega
              exact h12
          have hI : ((xs[n].st.log.length : Nat) : Int) ≤ 12 := by omega
          have hI' : ¬ (12 : Int) < ((xs[n].st.log.length : Nat) : Int) := by omega
          clear hall e0
          generalize xs[n].st.log.length = ll at *
          generalize xs[n].ao = lo at *
          generalize xs[n].c = lc at *
          go_wp2
          go_roundw
          case rel => first | exact ⟨n + 1, by omega, by go_num, hnx.out, rfl⟩ | exact ⟨n + 1, by omega, by go_num, hnx.out, trivial⟩ | exact ⟨n + 1, by omega, by go_num, hnx.out⟩
          case measure => simp [intOf]; omega
        · have hF : Hid (fewB xs = false) := by
            show _ = _
            rw [hfb.out]
            have : (xs.all fun x => decide (x.st.log.length ≤ 12)) = false := by
              rw [← Bool.not_eq_true, List.all_eq_true]
              intro ha
              exact h12 (of_decide_eq_true (ha xs[n] (List.getElem_mem hlt)))
            rw [this]
            rfl
          have hI : (12 : Int) < ((xs[n].st.log.length : Nat) : Int) := by omega
          clear hall e0 h12
          generalize xs[n].st.log.length = ll at *
          generalize xs[n].ao = lo at *
          generalize xs[n].c = lc at *
          go_wp2
          go_ret
          exact ⟨by rw [hF.out]; rfl, rfl⟩
    · have hF : Hid (fewB xs = decide (xs.length ≤ 8)) := by
        show _ = _
        rw [hfb.out]
        have : (xs.all fun x => decide (x.st.log.length ≤ 12)) = true := by
          rw [List.all_eq_true]
          intro x hx
          obtain ⟨k, hk, rfl⟩ := List.getElem_of_mem hx
          exact decide_eq_true (hall k hk (by omega))
        rw [this]
        rfl
      have e : n = xs.length := by omega
      subst e
      clear hall
      by_cases h8 : xs.length ≤ 8
      · rw [decide_eq_true h8] at hF
        have h8I : (xs.length : Int) ≤ 8 := by omega
        go_wp2
        go_ret
        exact ⟨by rw [hF.out]; rfl, rfl⟩
      · rw [decide_eq_false h8] at hF
        have h8I : (8 : Int) < (xs.length : Int) := by omega
        have d8 : decide ((xs.length : Int) ≤ 8) = false := decide_eq_false (by omega)
        go_wp2
        go_ret
        exact ⟨by rw [hF.out]; rfl, rfl⟩
end Go.Proofs.Ytlbokkbngbpmiaa
