/- JnlFace, JnlOn, JnlKnown, JnlTexts, joined. -/
import Derived.Test.YtlalfagafbpkiaaGreatGrp31
import Derived.Test.YtlalfagafbpkiaaGreatGrp32
import Derived.Test.YtlalfagafbpkiaaGreatGrp33
import Derived.Test.YtlalfagafbpkiaaGreatGrp34
import Derived.Test.YtlalfagafbpkiaaGreatGrp35
import Derived.Test.YtlalfagafbpkiaaGreatGrp20
import Derived.Laws.Strings
namespace Go.Proofs.YtlalfagafbpkiaaGreat
section
set_option linter.unusedSimpArgs false
set_option linter.unusedVariables false
set_option maxRecDepth 100000
open Go.RowKit Go.MapKept

/-- A good disk holds l, its header's number is at most N. -/
def GoodL (n : Nat) (D : List UInt8) (l : List (List UInt8)) (N : Nat) : Prop := ∃ h, Good n D h l ∧ h.num ≤ N
theorem GoodL.more {n : Nat} {D : List UInt8} {l : List (List UInt8)} {N M : Nat} (h : GoodL n D l N) (hM : N ≤ M) : GoodL n D l M := by
  obtain ⟨h, g, hN⟩ := h
  exact ⟨h, g, by omega⟩
/-- A disk at rest. -/
structure Rest (w : World) (p kb mb n : Nat) (D : List UInt8) (left : Nat) : Prop where
  disk : DiskAt w p kb mb n ⟨D, [], left, false⟩
/-- A journal at rest. -/
structure JOk (w : World) (j p kb mb n left : Nat) (lo : Option Addr) (lc : Nat) (l : List (List UInt8)) (N : Nat) : Prop where
  ok : ∃ D h, JAt w j p kb mb n ⟨D, [], left, false⟩ h lo lc l false ∧ Good n D h l ∧ h.num ≤ N
/-- A disk that was cut off, whatever comes of it. -/
def DCut (w : World) (p kb mb n : Nat) (Q : List UInt8 → Prop) : Prop := ∃ d, DiskAt w p kb mb n d ∧ d.pend.length ≤ 1000 ∧ ∀ E, Torn n d.dat d.pend E → Q E
theorem nodup_len : ∀ (n : Nat) (l : List Nat), l.Nodup → (∀ x ∈ l, x < n) → l.length ≤ n
  | 0, l, _, h => by
    cases l with
    | nil => exact Nat.le_refl _
    | cons x l => exact absurd (h x (List.mem_cons_self ..)) (Nat.not_lt_zero x)
  | n + 1, l, hd, h => by
    by_cases hm : n ∈ l
    · have h1 := nodup_len n (l.erase n) (hd.erase n) (fun x hx => by
        have h2 := h x (List.mem_of_mem_erase hx)
        have h3 : x ≠ n := fun e => by
          rw [e] at hx
          exact (hd.not_mem_erase) hx
        omega)
      rw [List.length_erase_of_mem hm] at h1
      omega
    · have h1 := nodup_len n l hd (fun x hx => by
        have h2 := h x hx
        have h3 : x ≠ n := fun e => hm (e ▸ hx)
        omega)
      omega
theorem DiskAt.few {w : World} {p kb mb n : Nat} {d : DskV} (h : DiskAt w p kb mb n d) : d.pend.length ≤ 1000 := by
  have h1 := nodup_len n (d.pend.map (·.1)) h.apart (fun x hx => by
    obtain ⟨y, hy, rfl⟩ := List.mem_map.1 hx
    exact (h.sect y hy).1)
  rw [List.length_map] at h1
  have := h.n1
  omega
theorem JOk.disk {w : World} {j p kb mb n left : Nat} {lo : Option Addr} {lc : Nat} {l : List (List UInt8)} {N : Nat} (H : JOk w j p kb mb n left lo lc l N) : ∃ D, DiskAt w p kb mb n ⟨D, [], left, false⟩ ∧ GoodL n D l N := by
  obtain ⟨D, h, H1, g, hN⟩ := H.ok
  exact ⟨D, H1.disk, h, g, hN⟩
theorem JOk.cut {w : World} {j p kb mb n left : Nat} {lo : Option Addr} {lc : Nat} {l : List (List UInt8)} {N : Nat} (H : JOk w j p kb mb n left lo lc l N) : DCut w p kb mb n (fun E => GoodL n E l N) := by
  obtain ⟨D, hD, hg⟩ := H.disk
  refine ⟨_, hD, Nat.zero_le _, fun E ht => ?_⟩
  rw [ht.nil hD.len]
  exact hg
theorem JOk.lt {w : World} {j p kb mb n left : Nat} {lo : Option Addr} {lc : Nat} {l : List (List UInt8)} {N : Nat} (H : JOk w j p kb mb n left lo lc l N) : ∀ k, FJ j p kb mb lo k → k < w.heap.size := by
  obtain ⟨D, h, H1, _⟩ := H.ok
  exact H1.lt
theorem JOk.off {G : Nat → Prop} {w w' : World} {j p kb mb n left : Nat} {lo : Option Addr} {lc : Nat} {l : List (List UInt8)} {N : Nat} (H : JOk w j p kb mb n left lo lc l N) (hq : OffF G w w') (hG : ∀ k, FJ j p kb mb lo k → ¬ G k) : JOk w' j p kb mb n left lo lc l N := by
  obtain ⟨D, h, H1, g, hN⟩ := H.ok
  exact ⟨D, h, H1.off hq hG, g, hN⟩
theorem JOk.later {w w' : World} {j p kb mb n left : Nat} {lo : Option Addr} {lc : Nat} {l : List (List UInt8)} {N : Nat} (H : JOk w j p kb mb n left lo lc l N) (hb : Below w.heap.size w w') : JOk w' j p kb mb n left lo lc l N :=
  H.off (G := fun _ => False) (OffF.of hb) (fun _ _ hf => hf)
theorem JOk.drew {w : World} {j p kb mb n left : Nat} {lo : Option Addr} {lc : Nat} {l : List (List UInt8)} {N : Nat} (H : JOk w j p kb mb n left lo lc l N) : JOk w.drew j p kb mb n left lo lc l N := H.later (Below.refl _ _).drew
theorem JOk.facts {w : World} {j p kb mb n left : Nat} {lo : Option Addr} {lc : Nat} {l : List (List UInt8)} {N : Nat} (H : JOk w j p kb mb n left lo lc l N) : 8 ≤ n ∧ n ≤ 1000 ∧ takenM l ≤ limitM n ∧ takenM l ≤ 1000000 ∧ (∀ r ∈ l, r.length ≤ 20000) := by
  obtain ⟨D, h, H1, g, hN⟩ := H.ok
  have := g.n0
  have := g.n1
  have := g.room
  exact ⟨g.n0, g.n1, g.room, by unfold limitM at *; omega, g.each⟩
/-- A new disk. -/
theorem new_face (n : Nat) (w : World) (hn0 : 1 ≤ n) (hn1 : n ≤ 1000) :
    Calls Tryz.prog 5 #[.int .i64 (n : Nat)] w fun e w' => ∃ p kb mb, e = .returned (.pointer (some ⟨p, 0, none⟩)) ∧ DiskAt w' p kb mb n ⟨zeroD n, [], 0, false⟩ ∧ Below w.heap.size w w' ∧ (∀ k, DF p kb mb k → w.heap.size ≤ k) := by
  refine (dnew_any n w hn0 hn1).mono ?_
  rintro e w' ⟨p, kb, mb, rfl, hD, hb, h1, h2, h3⟩
  exact ⟨p, kb, mb, rfl, hD, hb, fun k hk => by rcases hk with rfl | rfl | rfl <;> assumption⟩
/-- A crash; where the choices lie is asked only where there are some. -/
theorem crash_face_ne (p kb mb n : Nat) (Q : List UInt8 → Prop) (ao : Option Addr) (k c : Nat) (cs : List UInt8) (w : World) (hc : DCut w p kb mb n Q) (hB : By w ao c cs) (hk : k = cs.length) (hlt : ∀ ad, ao = some ad → cs ≠ [] → ad.block < w.heap.size ∧ ¬ DF p kb mb ad.block) :
    Calls Tryz.prog 8 #[.pointer (some ⟨p, 0, none⟩), .slice ao k c] w fun e w' => e = .returned (.tuple #[]) ∧ ∃ E, Q E ∧ DiskAt w' p kb mb n ⟨E, [], 0, false⟩ ∧ OffF (DF p kb mb) w w' := by
  obtain ⟨d, hD, hl, hE⟩ := hc
  refine (dcrash_ne p kb mb n d ao k c cs w hD hB hk hl hlt).mono ?_
  rintro e w' ⟨rfl, E, ht, hD', ho⟩
  exact ⟨rfl, E, hE E ht, hD', ho⟩
/-- A crash. -/
theorem crash_face (p kb mb n : Nat) (Q : List UInt8 → Prop) (ao : Option Addr) (k c : Nat) (cs : List UInt8) (w : World) (hc : DCut w p kb mb n Q) (hB : By w ao c cs) (hk : k = cs.length) (hlt : ∀ ad, ao = some ad → ad.block < w.heap.size ∧ ¬ DF p kb mb ad.block) :
    Calls Tryz.prog 8 #[.pointer (some ⟨p, 0, none⟩), .slice ao k c] w fun e w' => e = .returned (.tuple #[]) ∧ ∃ E, Q E ∧ DiskAt w' p kb mb n ⟨E, [], 0, false⟩ ∧ OffF (DF p kb mb) w w' := by
  obtain ⟨d, hD, hl, hE⟩ := hc
  refine (dcrash_any p kb mb n d ao k c cs w hD hB hk hl hlt).mono ?_
  rintro e w' ⟨rfl, E, ht, hD', ho⟩
  exact ⟨rfl, E, hE E ht, hD', ho⟩
/-- What an Open of a good disk tells. -/
theorem open_face (p kb mb n left : Nat) (D : List UInt8) (l : List (List UInt8)) (N : Nat) (w : World) (hD : DiskAt w p kb mb n ⟨D, [], left, false⟩) (hg : GoodL n D l N) :
    Calls Tryz.prog 9 #[.pointer (some ⟨p, 0, none⟩)] w fun e w' => ∃ j lo lc bo bc, e = .returned (.tuple #[.pointer (some ⟨j, 0, none⟩), .slice bo l.length bc, .int .i64 0]) ∧ JOk w' j p kb mb n left lo lc l N ∧
      (∀ k, FJ j p kb mb lo k → DF p kb mb k ∨ w.heap.size ≤ k) ∧ Strs w' bo bc l ∧ (∀ ad, bo = some ad → w.heap.size ≤ ad.block ∧ ad.block < w'.heap.size ∧ ¬ FJ j p kb mb lo ad.block) ∧ Below w.heap.size w w' := by
  obtain ⟨h, g, hN⟩ := hg
  have hw : writtenM ⟨D, [], left, false⟩ = sec D := written_nil rfl
  refine (open_good p kb mb n ⟨D, [], left, false⟩ h l w hD rfl g.n0 (by rw [hw]; exact g.nums) (by rw [hw]; exact g.newest) g.ok g.half g.len g.sum g.fits g.each (Good.body (d := ⟨D, [], left, false⟩) g rfl)).mono ?_
  rintro e w' ⟨j, bo, bc, rfl, ho⟩
  obtain ⟨lo, lc, B, hJ, hrow, hloB, hjB, hbo⟩ := ho.rows
  have hlp := hD.lp
  have hnD : ∀ k, w.heap.size ≤ k → ¬ DF p kb mb k := fun k hk z => by
    rcases z with z | z | z <;> omega
  obtain ⟨_, ao, c9, hv, hS, hf⟩ := strs_own hrow
  cases hv
  obtain ⟨_, ao2, c8, hv2, hS2, hf2⟩ := strs_own hbo
  cases hv2
  have hnj := ho.newj
  have hne : ∀ ad, lo = some ad → ad.block ≠ j := fun ad had e => by
    have hh := hrow.2
    rcases hh with ⟨h0, _⟩ | ⟨g9, cap, cur, h1, h2, h3, _⟩
    · injection h0 with h0
      rw [h0] at had
      cases had
    · injection h1 with h1
      rw [h1] at had
      cases had
      have e : g9 = j := e
      subst e
      exact absurd (hJ.symm.trans h3) (by intro z; injection z with z; injection z with z1 z2; exact absurd z2 (by decide))
  refine ⟨j, lo, lc, bo, bc, rfl, ⟨D, h, ⟨hD.later ho.below, hJ, own_mono hrow (Nat.zero_le _), fun ad had => ⟨hne ad had, hnD _ (hf ad had).1⟩, hnD j hnj⟩, g, hN⟩, fun k hk => ?_, hS2, fun ad had => ?_, ho.below⟩
  · rcases hk with z | z | ⟨ad, had, z⟩
    · exact .inr (by omega)
    · exact .inl z
    · exact .inr (by rw [← z]; exact (hf ad had).1)
  · obtain ⟨q1, q2⟩ := hf2 ad had
    refine ⟨by omega, q2, fun z => ?_⟩
    rcases z with z | z | ⟨ad2, had2, z⟩
    · omega
    · exact hnD _ (by omega) z
    · have := hloB ad2 had2
      omega
theorem open_none_face (p kb mb n left : Nat) (D : List UInt8) (w : World) (hD : DiskAt w p kb mb n ⟨D, [], left, false⟩) (hg : NoJnl n D) :
    Calls Tryz.prog 9 #[.pointer (some ⟨p, 0, none⟩)] w fun e w' => e = .returned (.tuple #[.pointer none, .slice none 0 0, .int .i64 10]) ∧ Below w.heap.size w w' := by
  have hw : writtenM ⟨D, [], left, false⟩ = sec D := written_nil rfl
  exact open_err p kb mb n _ w hD fun bd bj w' hd hD' => open1_none p kb mb n _ hd0 bd bj w' hd hD' rfl hg.n0 (by rw [hw]; exact hg.nums) (by rw [hw]; exact hg.none)
/-- Format of a disk of noughts. -/
theorem format_zero (p kb mb n left : Nat) (w : World) (hD : DiskAt w p kb mb n ⟨zeroD n, [], left, false⟩) (hn : 8 ≤ n) :
    Calls Tryz.prog 6 #[.pointer (some ⟨p, 0, none⟩)] w fun e w' =>
      (∃ j left', e = .returned (.tuple #[.pointer (some ⟨j, 0, none⟩), .int .i64 0]) ∧ w.heap.size ≤ j ∧ left' ≤ left ∧ JOk w' j p kb mb n left' none 0 [] 1 ∧ OffF (DF p kb mb) w w') ∨
      (e = .returned (.tuple #[.pointer none, .int .i64 131]) ∧ left ≠ 0 ∧ DCut w' p kb mb n (fun E => NoJnl n E ∨ GoodL n E [] 1) ∧ OffF (DF p kb mb) w w') := by
  have hn1 := hD.n1
  have hw : writtenM ⟨zeroD n, [], left, false⟩ = sec (zeroD n) := written_nil rfl
  have hz := none_zero hn hn1
  refine (format_any p kb mb n ⟨zeroD n, [], left, false⟩ hd0 false w hD rfl rfl hn (by rw [hw]; exact hz.nums) (by rw [hw]; exact hz.none) (by decide)).mono ?_
  rintro e w' (⟨j, rfl, hj, d', hk, H, ho⟩ | ⟨rfl, hne, d', hc, hD', ho⟩)
  · left
    have hg := kept_fresh (d := ⟨zeroD n, [], left, false⟩) hn hn1 rfl hk
    have he : d' = ⟨d'.dat, [], d'.left, false⟩ := by
      have h1 := hk.pend
      have h2 := hk.off
      obtain ⟨a1, a2, a3, a4⟩ := d'
      cases h1
      cases h2
      rfl
    rw [he] at H
    exact ⟨j, d'.left, rfl, hj, hk.left, ⟨_, _, H, hg, by decide⟩, ho⟩
  · right
    refine ⟨rfl, hne, ⟨d', hD', hD'.few, fun E ht => ?_⟩, ho⟩
    exact (cut_fresh (d := ⟨zeroD n, [], left, false⟩) hn hn1 rfl hc ht).imp id (fun g => ⟨hd1, g, by decide⟩)
theorem kept_left {n : Nat} {d d' : DskV} {h f : HdV} {l : List (List UInt8)} (hk : KeptAt n d h f l d') : d' = ⟨d'.dat, [], d'.left, false⟩ := by
  have h1 := hk.pend
  have h2 := hk.off
  obtain ⟨a1, a2, a3, a4⟩ := d'
  cases h1
  cases h2
  rfl
/-- Format of a disk that holds a journal. -/
theorem format_over (p kb mb n left : Nat) (D : List UInt8) (l : List (List UInt8)) (N : Nat) (w : World) (hD : DiskAt w p kb mb n ⟨D, [], left, false⟩) (hg : GoodL n D l N) (hN : N < 255) :
    Calls Tryz.prog 6 #[.pointer (some ⟨p, 0, none⟩)] w fun e w' =>
      (∃ j left', e = .returned (.tuple #[.pointer (some ⟨j, 0, none⟩), .int .i64 0]) ∧ w.heap.size ≤ j ∧ left' ≤ left ∧ JOk w' j p kb mb n left' none 0 [] (N + 1) ∧ OffF (DF p kb mb) w w') ∨
      (e = .returned (.tuple #[.pointer none, .int .i64 131]) ∧ left ≠ 0 ∧ DCut w' p kb mb n (fun E => GoodL n E l N ∨ GoodL n E [] (N + 1)) ∧ OffF (DF p kb mb) w w') := by
  obtain ⟨h, g, hN'⟩ := hg
  have hw : writtenM ⟨D, [], left, false⟩ = sec D := written_nil rfl
  have hlaid := laid_format (d := ⟨D, [], left, false⟩) g
  refine (format_any p kb mb n ⟨D, [], left, false⟩ h true w hD rfl rfl g.n0 (by rw [hw]; exact g.nums) (by rw [hw]; exact g.newest) (by omega)).mono ?_
  have hnx : (nextM h hd0 []).num ≤ N + 1 := by show h.num + 1 ≤ N + 1; omega
  rintro e w' (⟨j, rfl, hj, d', hk, H, ho⟩ | ⟨rfl, hne, d', hc, hD', ho⟩)
  · left
    have hg := kept_good (d := ⟨D, [], left, false⟩) g (by omega) hlaid hk
    rw [kept_left hk] at H
    exact ⟨j, d'.left, rfl, hj, hk.left, ⟨_, _, H, hg, hnx⟩, ho⟩
  · right
    refine ⟨rfl, hne, ⟨d', hD', hD'.few, fun E ht => ?_⟩, ho⟩
    exact (cut_good (d := ⟨D, [], left, false⟩) g (by omega) hlaid hc ht).imp (fun g => ⟨h, g, hN'⟩) (fun g => ⟨_, g, hnx⟩)
/-- Append. -/
theorem append_face (j p kb mb n left : Nat) (lo : Option Addr) (lc : Nat) (l : List (List UInt8)) (N : Nat) (s : List UInt8) (w : World) (H : JOk w j p kb mb n left lo lc l N) (hN : N < 255) (hs : s.length ≤ 20000) (hr : takenM l + (s.length + 16) ≤ limitM n) :
    Calls Tryz.prog 15 #[.pointer (some ⟨j, 0, none⟩), strV s] w fun e w' =>
      (e = .returned (.int .i64 0) ∧ ∃ lo' lc' left', left' ≤ left ∧ JOk w' j p kb mb n left' lo' lc' (l ++ [s]) (N + 1) ∧ (∀ k, FJ j p kb mb lo' k → FJ j p kb mb lo k ∨ w.heap.size ≤ k) ∧ OffF (FJ j p kb mb lo) w w') ∨
      (e = .returned (.int .i64 ((131 : Nat) : Int)) ∧ left ≠ 0 ∧ DCut w' p kb mb n (fun E => GoodL n E l (N + 1) ∨ GoodL n E (l ++ [s]) (N + 1)) ∧ (∃ h, Has w' j 53 (jnlC p h lo l.length lc true)) ∧ OffF (FJ j p kb mb lo) w w') := by
  obtain ⟨D, h, H1, g, hN'⟩ := H.ok
  have hlaid := laid_append (d := ⟨D, [], left, false⟩) g hs hr
  have hnx : (nextM h h [s]).num ≤ N + 1 := by show h.num + 1 ≤ N + 1; omega
  refine (append_any j p kb mb n ⟨D, [], left, false⟩ h lo lc l s w H1 rfl rfl g.n0 g.half (by omega) (by rw [g.sum]; exact sum_lt _ _ (by decide)) hs hr (g.fitApp hr)).mono ?_
  rintro e w' (⟨rfl, d', lo', lc', hk, H', hF, ho⟩ | ⟨rfl, hne, d', hc, H', ho⟩)
  · left
    have hg := kept_good (d := ⟨D, [], left, false⟩) g (by omega) hlaid hk
    rw [kept_left hk] at H'
    exact ⟨rfl, lo', lc', d'.left, hk.left, ⟨_, _, H', hg, hnx⟩, hF, ho⟩
  · right
    refine ⟨rfl, hne, ⟨d', H'.disk, H'.disk.few, fun E ht => ?_⟩, ⟨h, H'.jnl⟩, ho⟩
    exact (cut_good (d := ⟨D, [], left, false⟩) g (by omega) hlaid hc ht).imp (fun g => ⟨h, g, by omega⟩) (fun g => ⟨_, g, hnx⟩)
/-- Replace. -/
theorem replace_face (j p kb mb n left : Nat) (lo : Option Addr) (lc : Nat) (l : List (List UInt8)) (N : Nat) (so : Option Addr) (sc : Nat) (m : List (List UInt8)) (w : World) (H : JOk w j p kb mb n left lo lc l N) (hN : N < 255)
    (hS : Strs w so sc m) (hso : ∀ ad, so = some ad → ad.block < w.heap.size ∧ ¬ FJ j p kb mb lo ad.block) (hm : ∀ r ∈ m, r.length ≤ 20000) (hr : takenM m ≤ limitM n) :
    Calls Tryz.prog 29 #[.pointer (some ⟨j, 0, none⟩), .slice so m.length sc] w fun e w' =>
      (e = .returned (.int .i64 0) ∧ ∃ lo' lc' left', left' ≤ left ∧ JOk w' j p kb mb n left' lo' lc' m (N + 1) ∧ (∀ k, FJ j p kb mb lo' k → FJ j p kb mb lo k ∨ w.heap.size ≤ k) ∧ OffF (FJ j p kb mb lo) w w') ∨
      (e = .returned (.int .i64 ((131 : Nat) : Int)) ∧ left ≠ 0 ∧ DCut w' p kb mb n (fun E => GoodL n E l (N + 1) ∨ GoodL n E m (N + 1)) ∧ (∃ h, Has w' j 53 (jnlC p h lo l.length lc true)) ∧ OffF (FJ j p kb mb lo) w w') := by
  obtain ⟨D, h, H1, g, hN'⟩ := H.ok
  have hlaid := laid_replace (d := ⟨D, [], left, false⟩) g hm hr
  have hnx : (nextM h ⟨0, 1 - h.half, 0, 0⟩ m).num ≤ N + 1 := by show h.num + 1 ≤ N + 1; omega
  refine (replace_any j p kb mb n ⟨D, [], left, false⟩ h lo lc l so sc m w H1 rfl rfl g.n0 g.half (by omega) hS hso hm hr).mono ?_
  rintro e w' (⟨rfl, d', lo', lc', hk, H', hF, ho⟩ | ⟨rfl, hne, d', hc, H', ho⟩)
  · left
    have hg := kept_good (d := ⟨D, [], left, false⟩) g (by omega) hlaid hk
    rw [kept_left hk] at H'
    exact ⟨rfl, lo', lc', d'.left, hk.left, ⟨_, _, H', hg, hnx⟩, hF, ho⟩
  · right
    refine ⟨rfl, hne, ⟨d', H'.disk, H'.disk.few, fun E ht => ?_⟩, ⟨h, H'.jnl⟩, ho⟩
    exact (cut_good (d := ⟨D, [], left, false⟩) g (by omega) hlaid hc ht).imp (fun g => ⟨h, g, by omega⟩) (fun g => ⟨_, g, hnx⟩)
theorem JOk.same {w w' : World} {j p kb mb n left : Nat} {lo : Option Addr} {lc : Nat} {l : List (List UInt8)} {N : Nat} (H : JOk w j p kb mb n left lo lc l N) (hb : But j w w') (hJ : ∀ h, Has w j 53 (jnlC p h lo l.length lc false) → Has w' j 53 (jnlC p h lo l.length lc false)) : JOk w' j p kb mb n left lo lc l N := by
  obtain ⟨D, h, H1, g, hN⟩ := H.ok
  exact ⟨D, h, H1.turn ((OffF.but hb).more (fun k hk => .inl hk)) (H1.disk.offs (OffF.but hb) (fun z => H1.jF (.inl z.symm)) (fun z => H1.jF (.inr (.inl z.symm))) (fun z => H1.jF (.inr (.inr z.symm)))) (hJ h H1.jnl), g, hN⟩
/-- What isn't taken: the journal stays as it was. -/
theorem append_no (j p kb mb n left : Nat) (lo : Option Addr) (lc : Nat) (l : List (List UInt8)) (N : Nat) (s : List UInt8) (w : World) (H : JOk w j p kb mb n left lo lc l N) (hs : 20000 < s.length ∨ ¬ takenM l + (s.length + 16) ≤ limitM n) :
    Calls Tryz.prog 15 #[.pointer (some ⟨j, 0, none⟩), strV s] w fun e w' => e = .returned (.int .i64 (if 20000 < s.length then 10 else 140)) ∧ JOk w' j p kb mb n left lo lc l N ∧ But j w w' := by
  obtain ⟨D, h, H1, g, hN⟩ := H.ok
  obtain ⟨f1, f2, f3, f4, f5⟩ := H.facts
  have fin : ∀ w', Has w' j 53 (jnlC p h lo l.length lc false) → But j w w' → JOk w' j p kb mb n left lo lc l N := fun w' h1 h2 => ⟨D, h, H1.turn ((OffF.but h2).more (fun k hk => .inl hk)) (H1.disk.offs (OffF.but h2) (fun z => H1.jF (.inl z.symm)) (fun z => H1.jF (.inr (.inl z.symm))) (fun z => H1.jF (.inr (.inr z.symm)))) h1, g, hN⟩
  by_cases hl : 20000 < s.length
  · rw [if_pos hl]
    refine (append_long j p l.length lc h lo s w H1.jnl hl).mono ?_
    rintro e w' ⟨rfl, h1, h2⟩
    exact ⟨rfl, fin w' h1 h2, h2⟩
  · rw [if_neg hl]
    refine (append_room j p kb mb n _ h lo lc l s w H1 f1 (by omega) f4 (hs.resolve_left hl)).mono ?_
    rintro e w' ⟨rfl, h1, h2⟩
    exact ⟨rfl, fin w' h1 h2, h2⟩
theorem replace_no (j p kb mb n left : Nat) (lo : Option Addr) (lc : Nat) (l : List (List UInt8)) (N : Nat) (so : Option Addr) (sc : Nat) (m : List (List UInt8)) (w : World) (H : JOk w j p kb mb n left lo lc l N) (hS : Strs w so sc m) (htm : takenM m ≤ 100000000) (hm : (∃ r ∈ m, 20000 < r.length) ∨ ((∀ r ∈ m, r.length ≤ 20000) ∧ ¬ takenM m ≤ limitM n)) :
    Calls Tryz.prog 29 #[.pointer (some ⟨j, 0, none⟩), .slice so m.length sc] w fun e w' => ((e = .returned (.int .i64 10) ∧ ∃ r ∈ m, 20000 < r.length) ∨ (e = .returned (.int .i64 140) ∧ ¬ takenM m ≤ limitM n)) ∧ JOk w' j p kb mb n left lo lc l N ∧ But j w w' := by
  obtain ⟨D, h, H1, g, hN⟩ := H.ok
  have fin : ∀ w', Has w' j 53 (jnlC p h lo l.length lc false) → But j w w' → JOk w' j p kb mb n left lo lc l N := fun w' h1 h2 => ⟨D, h, H1.turn ((OffF.but h2).more (fun k hk => .inl hk)) (H1.disk.offs (OffF.but h2) (fun z => H1.jF (.inl z.symm)) (fun z => H1.jF (.inr (.inl z.symm))) (fun z => H1.jF (.inr (.inr z.symm)))) h1, g, hN⟩
  rcases hm with hl | ⟨hl, hr⟩
  · refine (replace_long j p l.length lc h lo so sc m w H1.jnl hS hl).mono ?_
    rintro e w' ⟨rfl, h1, h2⟩
    exact ⟨.inl ⟨rfl, hl⟩, fin w' h1 h2, h2⟩
  · refine (replace_room j p kb mb n _ h lo lc l so sc m w H1 g.n0 hS hl htm hr).mono ?_
    rintro e w' ⟨rfl, h1, h2⟩
    exact ⟨.inr ⟨rfl, hr⟩, fin w' h1 h2, h2⟩
/-- All, Room, Broken. -/
theorem all_face (j p kb mb n left : Nat) (lo : Option Addr) (lc : Nat) (l : List (List UInt8)) (N : Nat) (w : World) (H : JOk w j p kb mb n left lo lc l N) :
    Calls Tryz.prog 13 #[.pointer (some ⟨j, 0, none⟩)] w fun e w' => ∃ bo bc, e = .returned (.slice bo l.length bc) ∧ Strs w' bo bc l ∧ (∀ ad, bo = some ad → w.heap.size ≤ ad.block ∧ ad.block < w'.heap.size) ∧ Below w.heap.size w w' := by
  obtain ⟨D, h, H1, g, hN⟩ := H.ok
  obtain ⟨f1, f2, f3, f4, f5⟩ := H.facts
  refine (jall_any j p h lo lc l false w H1.jnl H1.strs.1 (by have := sheet_taken l; omega)).mono ?_
  rintro e w' ⟨bo, bc, rfl, hown, hb⟩
  obtain ⟨_, ao, c9, hv, hS, hf⟩ := strs_own hown
  cases hv
  exact ⟨bo, bc, rfl, hS, hf, hb⟩
theorem room_face (j p kb mb n left : Nat) (lo : Option Addr) (lc : Nat) (l : List (List UInt8)) (N : Nat) (w : World) (H : JOk w j p kb mb n left lo lc l N) :
    Calls Tryz.prog 30 #[.pointer (some ⟨j, 0, none⟩)] w fun e w' => e = .returned (.int .i64 (roomM n l : Nat)) ∧ w' = w.drew := by
  obtain ⟨D, h, H1, g, hN⟩ := H.ok
  obtain ⟨f1, f2, f3, f4, f5⟩ := H.facts
  exact jroom_any j p kb mb n _ h lo lc l false w H1.jnl H1.disk f1 H1.strs.1 f4
theorem broken_face (j p kb mb n left : Nat) (lo : Option Addr) (lc : Nat) (l : List (List UInt8)) (N : Nat) (w : World) (H : JOk w j p kb mb n left lo lc l N) :
    Calls Tryz.prog 14 #[.pointer (some ⟨j, 0, none⟩)] w fun e w' => e = .returned (.bool false) ∧ w' = w := by
  obtain ⟨D, h, H1, g, hN⟩ := H.ok
  exact jbroken_any j p h lo l.length lc false w H1.jnl
end

section
set_option linter.unusedSimpArgs false
set_option linter.unusedVariables false
set_option maxRecDepth 100000
open Go.RowKit Go.MapKept

/-- A journal that was made behind w0. -/
structure JL (w0 w : World) (j p kb mb n : Nat) (lo : Option Addr) (lc : Nat) (l : List (List UInt8)) (N : Nat) : Prop where
  ok : JOk w j p kb mb n 0 lo lc l N
  new : ∀ k, FJ j p kb mb lo k → w0.heap.size ≤ k
  below : Below w0.heap.size w0 w
/-- A disk that was made behind w0. -/
structure DL (w0 w : World) (p kb mb n : Nat) (D : List UInt8) : Prop where
  disk : DiskAt w p kb mb n ⟨D, [], 0, false⟩
  new : ∀ k, DF p kb mb k → w0.heap.size ≤ k
  below : Below w0.heap.size w0 w
section
variable {w0 w w' : World} {j p kb mb n N : Nat} {lo : Option Addr} {lc : Nat} {l : List (List UInt8)} {D : List UInt8}
theorem JL.later (H : JL w0 w j p kb mb n lo lc l N) (hb : Below w.heap.size w w') : JL w0 w' j p kb mb n lo lc l N := ⟨H.ok.later hb, H.new, H.below.trans (hb.mono H.below.size)⟩
theorem DL.later (H : DL w0 w p kb mb n D) (hb : Below w.heap.size w w') : DL w0 w' p kb mb n D := ⟨H.disk.later hb, H.new, H.below.trans (hb.mono H.below.size)⟩
theorem JL.off {G : Nat → Prop} (H : JL w0 w j p kb mb n lo lc l N) (hq : OffF G w w') (hG : ∀ k, FJ j p kb mb lo k → ¬ G k) (hG0 : ∀ k, G k → w0.heap.size ≤ k) : JL w0 w' j p kb mb n lo lc l N := ⟨H.ok.off hq hG, H.new, H.below.trans (hq.below hG0 H.below.size)⟩
theorem JL.disk (H : JL w0 w j p kb mb n lo lc l N) : ∃ D, DL w0 w p kb mb n D ∧ GoodL n D l N := by
  obtain ⟨D, hD, hg⟩ := H.ok.disk
  exact ⟨D, ⟨hD, fun k hk => H.new k (.inr (.inl hk)), H.below⟩, hg⟩
end
theorem new_on (w0 : World) (n : Nat) (w : World) (hb : Below w0.heap.size w0 w) (hn0 : 1 ≤ n) (hn1 : n ≤ 1000) :
    Calls Tryz.prog 5 #[.int .i64 (n : Nat)] w fun e w' => ∃ p kb mb, e = .returned (.pointer (some ⟨p, 0, none⟩)) ∧ DL w0 w' p kb mb n (zeroD n) ∧ Below w.heap.size w w' ∧ (∀ k, DF p kb mb k → w.heap.size ≤ k) := by
  refine (new_face n w hn0 hn1).mono ?_
  rintro e w' ⟨p, kb, mb, rfl, hD, hb', hF⟩
  exact ⟨p, kb, mb, rfl, ⟨hD, fun k hk => Nat.le_trans hb.size (hF k hk), hb.trans (hb'.mono hb.size)⟩, hb', hF⟩
theorem format_on (w0 : World) (p kb mb n : Nat) (w : World) (H : DL w0 w p kb mb n (zeroD n)) (hn : 8 ≤ n) :
    Calls Tryz.prog 6 #[.pointer (some ⟨p, 0, none⟩)] w fun e w' => ∃ j, e = .returned (.tuple #[.pointer (some ⟨j, 0, none⟩), .int .i64 0]) ∧ JL w0 w' j p kb mb n none 0 [] 1 ∧ w.heap.size ≤ j ∧ OffF (DF p kb mb) w w' := by
  refine (format_zero p kb mb n 0 w H.disk hn).mono ?_
  rintro e w' (⟨j, left', rfl, hj, hl, H', ho⟩ | ⟨_, hne, _⟩)
  · obtain rfl : left' = 0 := Nat.le_zero.1 hl
    refine ⟨j, rfl, ⟨H', fun k hk => ?_, H.below.trans (ho.below H.new H.below.size)⟩, hj, ho⟩
    rcases hk with z | z | ⟨ad, z, _⟩
    · have := H.below.size; omega
    · exact H.new k z
    · cases z
  · exact absurd rfl hne
theorem few_on (p kb mb n : Nat) (D : List UInt8) (w : World) (hD : DiskAt w p kb mb n ⟨D, [], 0, false⟩) (hn : n < 8) :
    Calls Tryz.prog 6 #[.pointer (some ⟨p, 0, none⟩)] w fun e w' => e = .returned (.tuple #[.pointer none, .int .i64 140]) ∧ Below w.heap.size w w' :=
  format_err p kb mb n _ w hD fun bd bj w' hd hD' => format1_few p kb mb n _ bd bj w' hd hD' hn
theorem append_on (w0 : World) (j p kb mb n : Nat) (lo : Option Addr) (lc : Nat) (l : List (List UInt8)) (N : Nat) (s : List UInt8) (w : World) (H : JL w0 w j p kb mb n lo lc l N) (hN : N < 255) (hs : s.length ≤ 20000) (hr : takenM l + (s.length + 16) ≤ limitM n) :
    Calls Tryz.prog 15 #[.pointer (some ⟨j, 0, none⟩), strV s] w fun e w' => e = .returned (.int .i64 0) ∧ ∃ lo' lc', JL w0 w' j p kb mb n lo' lc' (l ++ [s]) (N + 1) ∧ (∀ k, FJ j p kb mb lo' k → FJ j p kb mb lo k ∨ w.heap.size ≤ k) ∧ OffF (FJ j p kb mb lo) w w' := by
  refine (append_face j p kb mb n 0 lo lc l N s w H.ok hN hs hr).mono ?_
  rintro e w' (⟨rfl, lo', lc', left', hl, H', hF, ho⟩ | ⟨_, hne, _⟩)
  · obtain rfl : left' = 0 := Nat.le_zero.1 hl
    refine ⟨rfl, lo', lc', ⟨H', fun k hk => ?_, H.below.trans (ho.below H.new H.below.size)⟩, hF, ho⟩
    rcases hF k hk with z | z
    · exact H.new k z
    · exact Nat.le_trans H.below.size z
  · exact absurd rfl hne
theorem replace_on (w0 : World) (j p kb mb n : Nat) (lo : Option Addr) (lc : Nat) (l : List (List UInt8)) (N : Nat) (so : Option Addr) (sc : Nat) (m : List (List UInt8)) (w : World) (H : JL w0 w j p kb mb n lo lc l N) (hN : N < 255)
    (hS : Strs w so sc m) (hso : ∀ ad, so = some ad → ad.block < w.heap.size ∧ ¬ FJ j p kb mb lo ad.block) (hm : ∀ r ∈ m, r.length ≤ 20000) (hr : takenM m ≤ limitM n) :
    Calls Tryz.prog 29 #[.pointer (some ⟨j, 0, none⟩), .slice so m.length sc] w fun e w' => e = .returned (.int .i64 0) ∧ ∃ lo' lc', JL w0 w' j p kb mb n lo' lc' m (N + 1) ∧ (∀ k, FJ j p kb mb lo' k → FJ j p kb mb lo k ∨ w.heap.size ≤ k) ∧ OffF (FJ j p kb mb lo) w w' := by
  refine (replace_face j p kb mb n 0 lo lc l N so sc m w H.ok hN hS hso hm hr).mono ?_
  rintro e w' (⟨rfl, lo', lc', left', hl, H', hF, ho⟩ | ⟨_, hne, _⟩)
  · obtain rfl : left' = 0 := Nat.le_zero.1 hl
    refine ⟨rfl, lo', lc', ⟨H', fun k hk => ?_, H.below.trans (ho.below H.new H.below.size)⟩, hF, ho⟩
    rcases hF k hk with z | z
    · exact H.new k z
    · exact Nat.le_trans H.below.size z
  · exact absurd rfl hne
theorem crash_on (w0 : World) (p kb mb n : Nat) (D : List UInt8) (ao : Option Addr) (k c : Nat) (cs : List UInt8) (w : World) (H : DL w0 w p kb mb n D) (hB : By w ao c cs) (hk : k = cs.length) (hlt : ∀ ad, ao = some ad → ad.block < w.heap.size ∧ ¬ DF p kb mb ad.block) :
    Calls Tryz.prog 8 #[.pointer (some ⟨p, 0, none⟩), .slice ao k c] w fun e w' => e = .returned (.tuple #[]) ∧ DL w0 w' p kb mb n D ∧ OffF (DF p kb mb) w w' := by
  refine (crash_face p kb mb n (fun E => E = D) ao k c cs w ⟨_, H.disk, Nat.zero_le _, fun E ht => ht.nil H.disk.len⟩ hB hk hlt).mono ?_
  rintro e w' ⟨rfl, E, rfl, hD, ho⟩
  exact ⟨rfl, ⟨hD, H.new, H.below.trans (ho.below H.new H.below.size)⟩, ho⟩
theorem open_on (w0 : World) (p kb mb n : Nat) (D : List UInt8) (l : List (List UInt8)) (N : Nat) (w : World) (H : DL w0 w p kb mb n D) (hg : GoodL n D l N) :
    Calls Tryz.prog 9 #[.pointer (some ⟨p, 0, none⟩)] w fun e w' => ∃ j lo lc bo bc, e = .returned (.tuple #[.pointer (some ⟨j, 0, none⟩), .slice bo l.length bc, .int .i64 0]) ∧ JL w0 w' j p kb mb n lo lc l N ∧
      (∀ k, FJ j p kb mb lo k → DF p kb mb k ∨ w.heap.size ≤ k) ∧ Strs w' bo bc l ∧ (∀ ad, bo = some ad → w.heap.size ≤ ad.block ∧ ad.block < w'.heap.size ∧ ¬ FJ j p kb mb lo ad.block) ∧ Below w.heap.size w w' := by
  refine (open_face p kb mb n 0 D l N w H.disk hg).mono ?_
  rintro e w' ⟨j, lo, lc, bo, bc, rfl, H', hF, hS, hb, hq⟩
  refine ⟨j, lo, lc, bo, bc, rfl, ⟨H', fun k hk => ?_, H.below.trans (hq.mono H.below.size)⟩, hF, hS, hb, hq⟩
  rcases hF k hk with z | z
  · exact H.new k z
  · exact Nat.le_trans H.below.size z
end

section
set_option linter.unusedSimpArgs false
set_option linter.unusedVariables false
set_option maxRecDepth 100000
open Go.RowKit Go.MapKept

theorem ab_lit : (Value.string { data := #[97, 98] }) = strV [97, 98] := rfl
theorem none_lit : (Value.string { data := #[] }) = strV [] := rfl
set_option maxHeartbeats 8000000 in
theorem known_any (w : World) : Calls Tryz.prog 4 #[] w fun e w' => e = .returned (.bool true) ∧ Below w.heap.size w w' := by
  have hq : ∀ (ad : Addr) (w : World), (binOp .eql 26 (.pointer (some ad)) (.pointer none)).run Tryz.prog w = .ok (.bool false) w := fun ad w => by kernel_rfl
  go_enter Tryz.func4, Tryz.ntmps4
  go_wp2_with fail
  refine (new_on w 40 w (Below.refl _ _) (by decide) (by decide)).mono ?_
  rintro e w1 ⟨p, kb, mb, rfl, H1, hq1, hF1⟩
  go_wp2_with fail
  refine (format_on w p kb mb 40 w1 H1 (by decide)).mono ?_
  rintro e w2 ⟨j, rfl, H2, hj, ho2⟩
  clear H1 hq1 hF1 ho2 hj
  go_wp2_with fail
  refine (append_on w j p kb mb 40 none 0 [] 1 [97, 98] w2 H2 (by decide) (by decide) (by decide)).mono ?_
  rintro e w3 ⟨rfl, lo3, lc3, H3, hF3, ho3⟩
  clear H2 hF3 ho3
  go_wp2_with fail
  refine (append_on w j p kb mb 40 lo3 lc3 ([] ++ [[97, 98]]) (1 + 1) [] w3 H3 (by decide) (by decide) (by decide)).mono ?_
  rintro e w4 ⟨rfl, lo4, lc4, H4, hF4, ho4⟩
  clear H3 hF4 ho4
  obtain ⟨D4, H5, hg5⟩ := H4.disk
  go_wp2_with fail
  refine (crash_on w p kb mb 40 D4 none 0 0 [] w4 H5 (By.nothing _) rfl (fun ad had => by cases had)).mono ?_
  rintro e w5 ⟨rfl, H6, ho6⟩
  clear H4 H5 ho6
  go_wp2_with fail
  refine (open_on w p kb mb 40 D4 ([] ++ [[97, 98]] ++ [[]]) (1 + 1 + 1) w5 H6 hg5).mono ?_
  rintro e w6 ⟨j2, lo6, lc6, bo, bc, rfl, H7, hF7, hS7, hb7, hq7⟩
  have hB7 : Below w.heap.size w w6 := H7.below
  have hab : ([] ++ [[97, 98]] ++ [[]] : List (List UInt8)) = [[97, 98], []] := rfl
  rw [hab] at H7 hS7 ⊢
  cases bo with
  | none => have h1 := hS7.nil rfl; have h2 := hS7.le; rw [h1] at h2; exact absurd h2 (by decide)
  | some ad =>
    have H7' : JOk w6 j2 p kb mb 40 0 lo6 lc6 [[97, 98], []] (1 + 1 + 1) := H7.ok
    have hcap := hS7.cap
    have hle : 2 ≤ bc := hS7.le
    have hlen : ([[97, 98], []] : List (List UInt8)).length = 2 := rfl
    rw [hlen]
    clear H6 H7 hg5 hF7 hb7 hq7 hab hlen
    go_wp2_with fail
    refine (new_on w6 40 w6 (Below.refl _ _) (by decide) (by decide)).mono ?_
    rintro e w7 ⟨p2, kb2, mb2, rfl, H8, hq8, hF8⟩
    go_wp2_with fail
    refine (open_none_face p2 kb2 mb2 40 0 (zeroD 40) w7 H8.disk (none_zero (by decide) (by decide))).mono ?_
    rintro e w8 ⟨rfl, hq9⟩
    have hb8 : Below w6.heap.size w6 w8 := hq8.trans (hq9.mono hq8.size)
    clear H8 hF8 hq8 hq9
    go_wp2_with fail
    refine (new_on w8 3 w8 (Below.refl _ _) (by decide) (by decide)).mono ?_
    rintro e w9 ⟨p3, kb3, mb3, rfl, H10, hq10, hF10⟩
    go_wp2_with fail
    refine (few_on p3 kb3 mb3 3 (zeroD 3) w9 H10.disk (by decide)).mono ?_
    rintro e w10 ⟨rfl, hq11⟩
    have hb10 : Below w6.heap.size w6 w10 := hb8.trans ((hq10.trans (hq11.mono hq10.size)).mono hb8.size)
    have hBw : Below w.heap.size w w10 := hB7.trans (hb10.mono hB7.size)
    have hS10 := hS7.later hb10
    have H11 := H7'.later hb10
    have c0 : w10.cell? ad = some (.string (mkS [97, 98])) := by have := hS10.cell ad rfl 0 (by decide); exact (congrArg w10.cell? (show ad = ad.add 0 by rfl)).trans this
    have c1 : w10.cell? ⟨ad.block, ad.off + 1, none⟩ = some (.string (mkS [])) := by have := hS10.cell ad rfl 1 (by decide); exact (congrArg w10.cell? (show (⟨ad.block, ad.off + 1, none⟩ : Addr) = ad.add 1 by rfl)).trans this
    have k0 : (mkS [97, 98]).toList = [97, 98] := by unfold mkS; rw [ByteArray.toList_mk]
    have k1 : (mkS []).toList = [] := by unfold mkS; rw [ByteArray.toList_mk]
    clear H10 hF10 hq10 hq11 hb8 hb10 hS7 H7' hB7 hS10
    go_wp2_with fail
    · refine (all_face j2 p kb mb 40 0 lo6 lc6 [[97, 98], []] (1 + 1 + 1) w10 H11).mono ?_
      rintro e w11 ⟨bo, bc2, rfl, hSt, hbs, hb11⟩
      have H12 := H11.later hb11
      have hBw2 : Below w.heap.size w w11 := hBw.trans (hb11.mono hBw.size)
      clear H11 hSt hbs hb11 c0 c1
      have hlen : ([[97, 98], []] : List (List UInt8)).length = 2 := rfl
      rw [hlen]
      go_wp2_with fail
      refine (broken_face j2 p kb mb 40 0 lo6 lc6 [[97, 98], []] (1 + 1 + 1) w11 H12).mono ?_
      rintro e w12 ⟨rfl, rfl⟩
      clear H12
      go_wp2_with fail
      go_ret
      exact ⟨rfl, hBw2⟩
end

section
set_option linter.unusedSimpArgs false
set_option linter.unusedVariables false
set_option maxRecDepth 100000
open Go.RowKit Go.MapKept

theorem mkS_eq (s t : List UInt8) : ((mkS s).toList == (mkS t).toList) = decide (s = t) := by
  have e : ∀ l, (mkS l).toList = l := fun l => by rw [ByteArray.toList_eq]; unfold mkS; simp
  rw [e, e]
  by_cases h : s = t
  · rw [decide_eq_true h, h]; simp
  · rw [decide_eq_false h, beq_eq_false_iff_ne]; exact h
set_option maxHeartbeats 4000000 in
theorem texts_any (ao bo : Option Addr) (c e : Nat) (l m : List (List UInt8)) (w : World) (h : Strs w ao c l) (k : Strs w bo e m) :
    Calls Tryz.prog 10 #[.slice ao l.length c, .slice bo m.length e] w fun en w' => en = .returned (.bool (decide (l = m))) ∧ Below w.heap.size w w' := by
  have hle := h.le
  have hcap := h.cap
  have kle := k.le
  have kcap := k.cap
  obtain ⟨L, hL⟩ : ∃ L, l.length = L := ⟨_, rfl⟩
  obtain ⟨M, hM⟩ : ∃ L, m.length = L := ⟨_, rfl⟩
  rw [hL] at hle ⊢
  rw [hM] at kle ⊢
  obtain ⟨R, hR⟩ : ∃ r, decide (l = m) = r := ⟨_, rfl⟩
  rw [hR]
  replace hR : Hid _ := hR
  by_cases hLM : L = M
  · subst hLM
    replace hL : Hid _ := hL
    replace hM : Hid _ := hM
    go_enter Tryz.func10, Tryz.ntmps10
    go_wp2
    go_loopw [5] (fun iv wr => ∃ q, q ≤ L ∧ iv = .int .i64 (q : Nat) ∧ Hid (l.take q = m.take q) ∧ Below w.heap.size w wr) (fun iv _ => L - (intOf iv).toNat)
    case atStart => exact ⟨0, Nat.zero_le _, rfl, by show _ = _; rw [List.take_zero, List.take_zero], Below.refl _ _⟩
    case round =>
      obtain ⟨q, hq, rfl, ht, hb⟩ := hrel
      by_cases hlt : q < L
      · have hql : q < l.length := by rw [hL.out]; exact hlt
        have hqm : q < m.length := by rw [hM.out]; exact hlt
        have hltI : (q : Int) < (L : Int) := by omega
        cases ao with
        | none => have := h.nil rfl; omega
        | some ad =>
          cases bo with
          | none => have := k.nil rfl; omega
          | some bd =>
            have hS := (h.later hb).later (Below.refl _ wr).drew
            have kS := (k.later hb).later (Below.refl _ wr).drew
            have c1 := hS.cell ad rfl q hql
            have c2 := kS.cell bd rfl q hqm
            have ht2 : Hid (l.take (q + 1) = l.take q ++ [l[q]] ∧ m.take (q + 1) = m.take q ++ [m[q]]) := ⟨List.take_succ_eq_append_getElem hql, List.take_succ_eq_append_getElem hqm⟩
            have hne : Hid (l[q] ≠ m[q] → l ≠ m) := fun hn e => hn (by subst e; rfl)
            obtain ⟨s, hs⟩ : ∃ s, l[q] = s := ⟨_, rfl⟩
            obtain ⟨t, hst⟩ : ∃ s, m[q] = s := ⟨_, rfl⟩
            rw [hs] at c1 ht2 hne
            rw [hst] at c2 ht2 hne
            unfold strV at c1 c2
            have hb2 : Below w.heap.size w wr.drew := hb.drew
            clear hS kS hs hst
            go_wp2_with fail
            refine wp_region_plan (fun W => W = wr.drew) (Plan.of [(0, true), (1, true), (2, true), (3, true), (4, true), (5, true), (6, true), (7, true), (8, true)] .done) (by kernel_rfl) (by kernel_rfl) (by kernel_rfl) (by kernel_rfl) rfl ?_
            iterate 8
              first
                | (refine plan_pass _ rfl (by rfl) ?_)
                | (refine plan_take _ _ rfl (.inl ⟨by rfl, fun W hS => by obtain rfl := hS; go_simp; try with_reducible rfl⟩) ?_)
              try simp only [Act.put, List.setIfInBounds_toArray, List.set_cons_zero, List.set_cons_succ]
            have hcm : ¬ s = t → ¬ (mkS s).toList = (mkS t).toList := fun hc e => by
              have := mkS_eq s t
              rw [e, decide_eq_false hc] at this
              simp at this
            by_cases hc : s = t
            · clear hcm
              refine plan_take _ (.bool false) rfl (.inl ⟨by rfl, fun W hS => by clear hS; go_simp⟩) ?_
              try simp only [Act.put, List.setIfInBounds_toArray, List.set_cons_zero, List.set_cons_succ]
              refine plan_done ?_
              have hn : Hid (l.take (q + 1) = m.take (q + 1)) := by
                show _ = _
                rw [ht2.out.1, ht2.out.2, ht.out, hc]
              clear c1 c2 ht2 hne hc
              go_wp2
              go_roundw
              case rel => exact ⟨q + 1, by omega, by go_num, hn, hb2⟩
              case measure => simp [intOf]; omega
            · replace hcm := hcm hc
              refine plan_take _ (.bool true) rfl (.inl ⟨by rfl, fun W hS => by clear hS; go_simp⟩) ?_
              try simp only [Act.put, List.setIfInBounds_toArray, List.set_cons_zero, List.set_cons_succ]
              refine plan_done ?_
              have hf : Hid (decide (l = m) = false) := decide_eq_false (hne.out hc)
              obtain rfl : R = false := hR.out.symm.trans hf.out
              clear c1 c2 ht2 hne hc hcm
              go_wp2
              go_ret
              exact ⟨rfl, hb2⟩
      · have hqL : q = L := by omega
        have hlm : Hid (decide (l = m) = true) := by
          refine decide_eq_true ?_
          have := ht.out
          rw [hqL, List.take_of_length_le (by rw [hL.out]; exact Nat.le_refl _), List.take_of_length_le (by rw [hM.out]; exact Nat.le_refl _)] at this
          exact this
        obtain rfl : R = true := hR.out.symm.trans hlm.out
        subst hqL
        clear ht
        go_wp2
        go_ret
        exact ⟨rfl, hb⟩
  · have hf : Hid (decide (l = m) = false) := decide_eq_false fun e => hLM (by rw [← hL, ← hM, e])
    have hLI : ((L : Int) == (M : Int)) = false := by rw [beq_eq_false_iff_ne]; omega
    have hLI2 : ¬ (L : Int) = (M : Int) := by omega
    obtain rfl : R = false := hR.out.symm.trans hf.out
    clear hL hM hLM
    go_enter Tryz.func10, Tryz.ntmps10
    go_wp2
    go_ret
    exact ⟨rfl, Below.refl _ _⟩
def wtTo (l : List (List UInt8)) (q : Nat) : Nat := takenM (l.take q)
set_option maxHeartbeats 4000000 in
theorem weight_any (ao : Option Addr) (c : Nat) (l : List (List UInt8)) (w : World) (h : Strs w ao c l) (hl : l.length ≤ 1000) (he : ∀ s ∈ l, s.length ≤ 140737488355328) :
    Calls Tryz.prog 7 #[.slice ao l.length c] w fun en w' => en = .returned (.int .i64 (takenM l : Nat)) ∧ w' = w := by
  have hle := h.le
  have hcap := h.cap
  have hb : ∀ q, q ≤ l.length → takenM (l.take q) ≤ q * 140737488355344 := by
    intro q
    induction q with
    | zero => intro _; rw [List.take_zero]; exact Nat.zero_le _
    | succ q ih =>
      intro hq
      rw [List.take_succ_eq_append_getElem (by omega), takenM_app]
      have h1 := ih (by omega)
      have h2 := he _ (List.getElem_mem (show q < l.length by omega))
      have h3 : takenM [l[q]] = l[q].length + 16 := rfl
      rw [h3]
      omega
  obtain ⟨L, hL⟩ : ∃ L, l.length = L := ⟨_, rfl⟩
  rw [hL] at hle hl hb ⊢
  obtain ⟨TW, hTW⟩ : ∃ t, takenM l = t := ⟨_, rfl⟩
  rw [hTW]
  replace hTW : Hid _ := hTW
  replace hL : Hid _ := hL
  replace hb : Hid _ := hb
  replace he : Hid _ := he
  go_enter Tryz.func7, Tryz.ntmps7
  go_wp2
  go_loopw [3, 4] (fun nv iv wr => ∃ q t, q ≤ L ∧ iv = .int .i64 (q : Nat) ∧ nv = .int .i64 (t : Nat) ∧ Hid (takenM (l.take q) = t) ∧ wr = w) (fun _ iv _ => L - (intOf iv).toNat)
  case atStart => exact ⟨0, 0, Nat.zero_le _, rfl, rfl, by show _ = _; rw [List.take_zero]; rfl, rfl⟩
  case round =>
    obtain ⟨q, t, hq, rfl, rfl, ht, hwr⟩ := hrel
    have hwr' := hwr.symm
    clear hwr
    subst hwr'
    by_cases hlt : q < L
    · have hql : q < l.length := by rw [hL.out]; exact hlt
      have hltI : (q : Int) < (L : Int) := by omega
      cases ao with
      | none => have := h.nil rfl; omega
      | some ad =>
        have c1 := h.cell ad rfl q hql
        have hz := mkS_size l[q]
        have hs := he.out _ (List.getElem_mem hql)
        have h1 := hb.out q hq
        have hst : takenM (l.take (q + 1)) = t + (l[q].length + 16) := by
          rw [List.take_succ_eq_append_getElem hql, takenM_app, ht.out]
          rfl
        rw [ht.out] at h1
        obtain ⟨s, hss⟩ : ∃ s, l[q] = s := ⟨_, rfl⟩
        rw [hss] at c1 hz hs hst
        unfold strV at c1
        obtain ⟨n, hn⟩ : ∃ n, (mkS s).size = n := ⟨_, rfl⟩
        have hns : n = s.length := hn.symm.trans hz
        rw [← hns] at hs hst
        have e1 : IntKind.i64.wrap ((t : Int) + (n : Int)) = (t : Int) + (n : Int) := by rw [IntKind.wrap_i64]; omega
        have e2 : IntKind.i64.wrap ((t : Int) + (n : Int) + 16) = (t : Int) + (n : Int) + 16 := by rw [IntKind.wrap_i64]; omega
        replace hst : Hid _ := hst
        clear hss hz hns h1 hs hql ht
        go_wp2
        go_roundw
        case rel => exact ⟨q + 1, t + (n + 16), by omega, by go_num, by go_num, hst, trivial⟩
        case measure => simp [intOf]; omega
    · have hqL : q = L := by omega
      have hfin : Hid (takenM l = t) := by
        have := ht.out
        rw [hqL, List.take_of_length_le (by rw [hL.out]; exact Nat.le_refl _)] at this
        exact this
      subst hqL
      clear ht
      obtain rfl : TW = t := hTW.out.symm.trans hfin.out
      go_wp2
      go_ret
      exact ⟨rfl, rfl⟩
end
end Go.Proofs.YtlalfagafbpkiaaGreat
