/- JnlFace, joined. -/
import Derived.Test.YtpnpjblohijajabGreatGrp32
import Derived.Test.YtpnpjblohijajabGreatGrp33
import Derived.Test.YtpnpjblohijajabGreatGrp34
import Derived.Test.YtpnpjblohijajabGreatGrp35
import Derived.Test.YtpnpjblohijajabGreatGrp36
namespace Go.Proofs.YtpnpjblohijajabGreat
section
set_option linter.unusedSimpArgs false
set_option linter.unusedVariables false
set_option maxRecDepth 100000
open Go.RowKit Go.MapKept

/-- A good disk holds l, its header's number is at most N. -/
def GoodL (n : Nat) (D : List UInt8) (l : List (List UInt8)) (N : Nat) : Prop := ∃ h, Good n D h l ∧ h.num ≤ N
theorem GoodL.more {n : Nat} {D : List UInt8} {l : List (List UInt8)} {N M : Nat} (h : GoodL n D l N) (hM : N ≤ M) : GoodL n D l M := by
  obtain ⟨h, g, hN⟩ := h
  exact ⟨h, g, by omega⟩
/-- A disk at rest. -/
structure Rest (w : World) (p kb mb n : Nat) (D : List UInt8) (left : Nat) : Prop where
  disk : DiskAt w p kb mb n ⟨D, [], left, false⟩
/-- A journal at rest. -/
structure JOk (w : World) (j p kb mb n left : Nat) (lo : Option Addr) (lc : Nat) (l : List (List UInt8)) (N : Nat) : Prop where
  ok : ∃ D h, JAt w j p kb mb n ⟨D, [], left, false⟩ h lo lc l false ∧ Good n D h l ∧ h.num ≤ N
/-- A disk that was cut off, whatever comes of it. -/
def DCut (w : World) (p kb mb n : Nat) (Q : List UInt8 → Prop) : Prop := ∃ d, DiskAt w p kb mb n d ∧ d.pend.length ≤ 1000 ∧ ∀ E, Torn n d.dat d.pend E → Q E
theorem nodup_len : ∀ (n : Nat) (l : List Nat), l.Nodup → (∀ x ∈ l, x < n) → l.length ≤ n
  | 0, l, _, h => by
    cases l with
    | nil => exact Nat.le_refl _
    | cons x l => exact absurd (h x (List.mem_cons_self ..)) (Nat.not_lt_zero x)
  | n + 1, l, hd, h => by
    by_cases hm : n ∈ l
    · have h1 := nodup_len n (l.erase n) (hd.erase n) (fun x hx => by
        have h2 := h x (List.mem_of_mem_erase hx)
        have h3 : x ≠ n := fun e => by
          rw [e] at hx
          exact (hd.not_mem_erase) hx
        omega)
      rw [List.length_erase_of_mem hm] at h1
      omega
    · have h1 := nodup_len n l hd (fun x hx => by
        have h2 := h x hx
        have h3 : x ≠ n := fun e => hm (e ▸ hx)
        omega)
      omega
theorem DiskAt.few {w : World} {p kb mb n : Nat} {d : DskV} (h : DiskAt w p kb mb n d) : d.pend.length ≤ 1000 := by
  have h1 := nodup_len n (d.pend.map (·.1)) h.apart (fun x hx => by
    obtain ⟨y, hy, rfl⟩ := List.mem_map.1 hx
    exact (h.sect y hy).1)
  rw [List.length_map] at h1
  have := h.n1
  omega
theorem JOk.disk {w : World} {j p kb mb n left : Nat} {lo : Option Addr} {lc : Nat} {l : List (List UInt8)} {N : Nat} (H : JOk w j p kb mb n left lo lc l N) : ∃ D, DiskAt w p kb mb n ⟨D, [], left, false⟩ ∧ GoodL n D l N := by
  obtain ⟨D, h, H1, g, hN⟩ := H.ok
  exact ⟨D, H1.disk, h, g, hN⟩
theorem JOk.cut {w : World} {j p kb mb n left : Nat} {lo : Option Addr} {lc : Nat} {l : List (List UInt8)} {N : Nat} (H : JOk w j p kb mb n left lo lc l N) : DCut w p kb mb n (fun E => GoodL n E l N) := by
  obtain ⟨D, hD, hg⟩ := H.disk
  refine ⟨_, hD, Nat.zero_le _, fun E ht => ?_⟩
  rw [ht.nil hD.len]
  exact hg
theorem JOk.lt {w : World} {j p kb mb n left : Nat} {lo : Option Addr} {lc : Nat} {l : List (List UInt8)} {N : Nat} (H : JOk w j p kb mb n left lo lc l N) : ∀ k, FJ j p kb mb lo k → k < w.heap.size := by
  obtain ⟨D, h, H1, _⟩ := H.ok
  exact H1.lt
theorem JOk.off {G : Nat → Prop} {w w' : World} {j p kb mb n left : Nat} {lo : Option Addr} {lc : Nat} {l : List (List UInt8)} {N : Nat} (H : JOk w j p kb mb n left lo lc l N) (hq : OffF G w w') (hG : ∀ k, FJ j p kb mb lo k → ¬ G k) : JOk w' j p kb mb n left lo lc l N := by
  obtain ⟨D, h, H1, g, hN⟩ := H.ok
  exact ⟨D, h, H1.off hq hG, g, hN⟩
theorem JOk.later {w w' : World} {j p kb mb n left : Nat} {lo : Option Addr} {lc : Nat} {l : List (List UInt8)} {N : Nat} (H : JOk w j p kb mb n left lo lc l N) (hb : Below w.heap.size w w') : JOk w' j p kb mb n left lo lc l N :=
  H.off (G := fun _ => False) (OffF.of hb) (fun _ _ hf => hf)
theorem JOk.drew {w : World} {j p kb mb n left : Nat} {lo : Option Addr} {lc : Nat} {l : List (List UInt8)} {N : Nat} (H : JOk w j p kb mb n left lo lc l N) : JOk w.drew j p kb mb n left lo lc l N := H.later (Below.refl _ _).drew
theorem JOk.facts {w : World} {j p kb mb n left : Nat} {lo : Option Addr} {lc : Nat} {l : List (List UInt8)} {N : Nat} (H : JOk w j p kb mb n left lo lc l N) : 8 ≤ n ∧ n ≤ 1000 ∧ takenM l ≤ limitM n ∧ takenM l ≤ 1000000 ∧ (∀ r ∈ l, r.length ≤ 20000) := by
  obtain ⟨D, h, H1, g, hN⟩ := H.ok
  have := g.n0
  have := g.n1
  have := g.room
  exact ⟨g.n0, g.n1, g.room, by unfold limitM at *; omega, g.each⟩
/-- A new disk. -/
theorem new_face (n : Nat) (w : World) (hn0 : 1 ≤ n) (hn1 : n ≤ 1000) :
    Calls Tryz.prog 6 #[.int .i64 (n : Nat)] w fun e w' => ∃ p kb mb, e = .returned (.pointer (some ⟨p, 0, none⟩)) ∧ DiskAt w' p kb mb n ⟨zeroD n, [], 0, false⟩ ∧ Below w.heap.size w w' ∧ (∀ k, DF p kb mb k → w.heap.size ≤ k) := by
  refine (dnew_any n w hn0 hn1).mono ?_
  rintro e w' ⟨p, kb, mb, rfl, hD, hb, h1, h2, h3⟩
  exact ⟨p, kb, mb, rfl, hD, hb, fun k hk => by rcases hk with rfl | rfl | rfl <;> assumption⟩
/-- A crash; where the choices lie is asked only where there are some. -/
theorem crash_face_ne (p kb mb n : Nat) (Q : List UInt8 → Prop) (ao : Option Addr) (k c : Nat) (cs : List UInt8) (w : World) (hc : DCut w p kb mb n Q) (hB : By w ao c cs) (hk : k = cs.length) (hlt : ∀ ad, ao = some ad → cs ≠ [] → ad.block < w.heap.size ∧ ¬ DF p kb mb ad.block) :
    Calls Tryz.prog 10 #[.pointer (some ⟨p, 0, none⟩), .slice ao k c] w fun e w' => e = .returned (.tuple #[]) ∧ ∃ E, Q E ∧ DiskAt w' p kb mb n ⟨E, [], 0, false⟩ ∧ OffF (DF p kb mb) w w' := by
  obtain ⟨d, hD, hl, hE⟩ := hc
  refine (dcrash_ne p kb mb n d ao k c cs w hD hB hk hl hlt).mono ?_
  rintro e w' ⟨rfl, E, ht, hD', ho⟩
  exact ⟨rfl, E, hE E ht, hD', ho⟩
/-- A crash. -/
theorem crash_face (p kb mb n : Nat) (Q : List UInt8 → Prop) (ao : Option Addr) (k c : Nat) (cs : List UInt8) (w : World) (hc : DCut w p kb mb n Q) (hB : By w ao c cs) (hk : k = cs.length) (hlt : ∀ ad, ao = some ad → ad.block < w.heap.size ∧ ¬ DF p kb mb ad.block) :
    Calls Tryz.prog 10 #[.pointer (some ⟨p, 0, none⟩), .slice ao k c] w fun e w' => e = .returned (.tuple #[]) ∧ ∃ E, Q E ∧ DiskAt w' p kb mb n ⟨E, [], 0, false⟩ ∧ OffF (DF p kb mb) w w' := by
  obtain ⟨d, hD, hl, hE⟩ := hc
  refine (dcrash_any p kb mb n d ao k c cs w hD hB hk hl hlt).mono ?_
  rintro e w' ⟨rfl, E, ht, hD', ho⟩
  exact ⟨rfl, E, hE E ht, hD', ho⟩
/-- What an Open of a good disk tells. -/
theorem open_face (p kb mb n left : Nat) (D : List UInt8) (l : List (List UInt8)) (N : Nat) (w : World) (hD : DiskAt w p kb mb n ⟨D, [], left, false⟩) (hg : GoodL n D l N) :
    Calls Tryz.prog 27 #[.pointer (some ⟨p, 0, none⟩)] w fun e w' => ∃ j lo lc bo bc, e = .returned (.tuple #[.pointer (some ⟨j, 0, none⟩), .slice bo l.length bc, .int .i64 0]) ∧ JOk w' j p kb mb n left lo lc l N ∧
      (∀ k, FJ j p kb mb lo k → DF p kb mb k ∨ w.heap.size ≤ k) ∧ Strs w' bo bc l ∧ (∀ ad, bo = some ad → w.heap.size ≤ ad.block ∧ ad.block < w'.heap.size ∧ ¬ FJ j p kb mb lo ad.block) ∧ Below w.heap.size w w' := by
  obtain ⟨h, g, hN⟩ := hg
  have hw : writtenM ⟨D, [], left, false⟩ = sec D := written_nil rfl
  refine (open_good p kb mb n ⟨D, [], left, false⟩ h l w hD rfl g.n0 (by rw [hw]; exact g.nums) (by rw [hw]; exact g.newest) g.ok g.half g.len g.sum g.fits g.each (Good.body (d := ⟨D, [], left, false⟩) g rfl)).mono ?_
  rintro e w' ⟨j, bo, bc, rfl, ho⟩
  obtain ⟨lo, lc, B, hJ, hrow, hloB, hjB, hbo⟩ := ho.rows
  have hlp := hD.lp
  have hnD : ∀ k, w.heap.size ≤ k → ¬ DF p kb mb k := fun k hk z => by
    rcases z with z | z | z <;> omega
  obtain ⟨_, ao, c9, hv, hS, hf⟩ := strs_own hrow
  cases hv
  obtain ⟨_, ao2, c8, hv2, hS2, hf2⟩ := strs_own hbo
  cases hv2
  have hnj := ho.newj
  have hne : ∀ ad, lo = some ad → ad.block ≠ j := fun ad had e => by
    have hh := hrow.2
    rcases hh with ⟨h0, _⟩ | ⟨g9, cap, cur, h1, h2, h3, _⟩
    · injection h0 with h0
      rw [h0] at had
      cases had
    · injection h1 with h1
      rw [h1] at had
      cases had
      have e : g9 = j := e
      subst e
      exact absurd (hJ.symm.trans h3) (by intro z; injection z with z; injection z with z1 z2; exact absurd z2 (by decide))
  refine ⟨j, lo, lc, bo, bc, rfl, ⟨D, h, ⟨hD.later ho.below, hJ, own_mono hrow (Nat.zero_le _), fun ad had => ⟨hne ad had, hnD _ (hf ad had).1⟩, hnD j hnj⟩, g, hN⟩, fun k hk => ?_, hS2, fun ad had => ?_, ho.below⟩
  · rcases hk with z | z | ⟨ad, had, z⟩
    · exact .inr (by omega)
    · exact .inl z
    · exact .inr (by rw [← z]; exact (hf ad had).1)
  · obtain ⟨q1, q2⟩ := hf2 ad had
    refine ⟨by omega, q2, fun z => ?_⟩
    rcases z with z | z | ⟨ad2, had2, z⟩
    · omega
    · exact hnD _ (by omega) z
    · have := hloB ad2 had2
      omega
theorem open_none_face (p kb mb n left : Nat) (D : List UInt8) (w : World) (hD : DiskAt w p kb mb n ⟨D, [], left, false⟩) (hg : NoJnl n D) :
    Calls Tryz.prog 27 #[.pointer (some ⟨p, 0, none⟩)] w fun e w' => e = .returned (.tuple #[.pointer none, .slice none 0 0, .int .i64 10]) ∧ Below w.heap.size w w' := by
  have hw : writtenM ⟨D, [], left, false⟩ = sec D := written_nil rfl
  exact open_err p kb mb n _ w hD fun bd bj w' hd hD' => open1_none p kb mb n _ hd0 bd bj w' hd hD' rfl hg.n0 (by rw [hw]; exact hg.nums) (by rw [hw]; exact hg.none)
/-- Format of a disk of noughts. -/
theorem format_zero (p kb mb n left : Nat) (w : World) (hD : DiskAt w p kb mb n ⟨zeroD n, [], left, false⟩) (hn : 8 ≤ n) :
    Calls Tryz.prog 15 #[.pointer (some ⟨p, 0, none⟩)] w fun e w' =>
      (∃ j left', e = .returned (.tuple #[.pointer (some ⟨j, 0, none⟩), .int .i64 0]) ∧ w.heap.size ≤ j ∧ left' ≤ left ∧ JOk w' j p kb mb n left' none 0 [] 1 ∧ OffF (DF p kb mb) w w') ∨
      (e = .returned (.tuple #[.pointer none, .int .i64 131]) ∧ left ≠ 0 ∧ DCut w' p kb mb n (fun E => NoJnl n E ∨ GoodL n E [] 1) ∧ OffF (DF p kb mb) w w') := by
  have hn1 := hD.n1
  have hw : writtenM ⟨zeroD n, [], left, false⟩ = sec (zeroD n) := written_nil rfl
  have hz := none_zero hn hn1
  refine (format_any p kb mb n ⟨zeroD n, [], left, false⟩ hd0 false w hD rfl rfl hn (by rw [hw]; exact hz.nums) (by rw [hw]; exact hz.none) (by decide)).mono ?_
  rintro e w' (⟨j, rfl, hj, d', hk, H, ho⟩ | ⟨rfl, hne, d', hc, hD', ho⟩)
  · left
    have hg := kept_fresh (d := ⟨zeroD n, [], left, false⟩) hn hn1 rfl hk
    have he : d' = ⟨d'.dat, [], d'.left, false⟩ := by
      have h1 := hk.pend
      have h2 := hk.off
      obtain ⟨a1, a2, a3, a4⟩ := d'
      cases h1
      cases h2
      rfl
    rw [he] at H
    exact ⟨j, d'.left, rfl, hj, hk.left, ⟨_, _, H, hg, by decide⟩, ho⟩
  · right
    refine ⟨rfl, hne, ⟨d', hD', hD'.few, fun E ht => ?_⟩, ho⟩
    exact (cut_fresh (d := ⟨zeroD n, [], left, false⟩) hn hn1 rfl hc ht).imp id (fun g => ⟨hd1, g, by decide⟩)
theorem kept_left {n : Nat} {d d' : DskV} {h f : HdV} {l : List (List UInt8)} (hk : KeptAt n d h f l d') : d' = ⟨d'.dat, [], d'.left, false⟩ := by
  have h1 := hk.pend
  have h2 := hk.off
  obtain ⟨a1, a2, a3, a4⟩ := d'
  cases h1
  cases h2
  rfl
/-- Format of a disk that holds a journal. -/
theorem format_over (p kb mb n left : Nat) (D : List UInt8) (l : List (List UInt8)) (N : Nat) (w : World) (hD : DiskAt w p kb mb n ⟨D, [], left, false⟩) (hg : GoodL n D l N) (hN : N < 255) :
    Calls Tryz.prog 15 #[.pointer (some ⟨p, 0, none⟩)] w fun e w' =>
      (∃ j left', e = .returned (.tuple #[.pointer (some ⟨j, 0, none⟩), .int .i64 0]) ∧ w.heap.size ≤ j ∧ left' ≤ left ∧ JOk w' j p kb mb n left' none 0 [] (N + 1) ∧ OffF (DF p kb mb) w w') ∨
      (e = .returned (.tuple #[.pointer none, .int .i64 131]) ∧ left ≠ 0 ∧ DCut w' p kb mb n (fun E => GoodL n E l N ∨ GoodL n E [] (N + 1)) ∧ OffF (DF p kb mb) w w') := by
  obtain ⟨h, g, hN'⟩ := hg
  have hw : writtenM ⟨D, [], left, false⟩ = sec D := written_nil rfl
  have hlaid := laid_format (d := ⟨D, [], left, false⟩) g
  refine (format_any p kb mb n ⟨D, [], left, false⟩ h true w hD rfl rfl g.n0 (by rw [hw]; exact g.nums) (by rw [hw]; exact g.newest) (by omega)).mono ?_
  have hnx : (nextM h hd0 []).num ≤ N + 1 := by show h.num + 1 ≤ N + 1; omega
  rintro e w' (⟨j, rfl, hj, d', hk, H, ho⟩ | ⟨rfl, hne, d', hc, hD', ho⟩)
  · left
    have hg := kept_good (d := ⟨D, [], left, false⟩) g (by omega) hlaid hk
    rw [kept_left hk] at H
    exact ⟨j, d'.left, rfl, hj, hk.left, ⟨_, _, H, hg, hnx⟩, ho⟩
  · right
    refine ⟨rfl, hne, ⟨d', hD', hD'.few, fun E ht => ?_⟩, ho⟩
    exact (cut_good (d := ⟨D, [], left, false⟩) g (by omega) hlaid hc ht).imp (fun g => ⟨h, g, hN'⟩) (fun g => ⟨_, g, hnx⟩)
/-- Append. -/
theorem append_face (j p kb mb n left : Nat) (lo : Option Addr) (lc : Nat) (l : List (List UInt8)) (N : Nat) (s : List UInt8) (w : World) (H : JOk w j p kb mb n left lo lc l N) (hN : N < 255) (hs : s.length ≤ 20000) (hr : takenM l + (s.length + 16) ≤ limitM n) :
    Calls Tryz.prog 40 #[.pointer (some ⟨j, 0, none⟩), strV s] w fun e w' =>
      (e = .returned (.int .i64 0) ∧ ∃ lo' lc' left', left' ≤ left ∧ JOk w' j p kb mb n left' lo' lc' (l ++ [s]) (N + 1) ∧ (∀ k, FJ j p kb mb lo' k → FJ j p kb mb lo k ∨ w.heap.size ≤ k) ∧ OffF (FJ j p kb mb lo) w w') ∨
      (e = .returned (.int .i64 ((131 : Nat) : Int)) ∧ left ≠ 0 ∧ DCut w' p kb mb n (fun E => GoodL n E l (N + 1) ∨ GoodL n E (l ++ [s]) (N + 1)) ∧ (∃ h, Has w' j 75 (jnlC p h lo l.length lc true)) ∧ OffF (FJ j p kb mb lo) w w') := by
  obtain ⟨D, h, H1, g, hN'⟩ := H.ok
  have hlaid := laid_append (d := ⟨D, [], left, false⟩) g hs hr
  have hnx : (nextM h h [s]).num ≤ N + 1 := by show h.num + 1 ≤ N + 1; omega
  refine (append_any j p kb mb n ⟨D, [], left, false⟩ h lo lc l s w H1 rfl rfl g.n0 g.half (by omega) (by rw [g.sum]; exact sum_lt _ _ (by decide)) hs hr (g.fitApp hr)).mono ?_
  rintro e w' (⟨rfl, d', lo', lc', hk, H', hF, ho⟩ | ⟨rfl, hne, d', hc, H', ho⟩)
  · left
    have hg := kept_good (d := ⟨D, [], left, false⟩) g (by omega) hlaid hk
    rw [kept_left hk] at H'
    exact ⟨rfl, lo', lc', d'.left, hk.left, ⟨_, _, H', hg, hnx⟩, hF, ho⟩
  · right
    refine ⟨rfl, hne, ⟨d', H'.disk, H'.disk.few, fun E ht => ?_⟩, ⟨h, H'.jnl⟩, ho⟩
    exact (cut_good (d := ⟨D, [], left, false⟩) g (by omega) hlaid hc ht).imp (fun g => ⟨h, g, by omega⟩) (fun g => ⟨_, g, hnx⟩)
/-- Replace. -/
theorem replace_face (j p kb mb n left : Nat) (lo : Option Addr) (lc : Nat) (l : List (List UInt8)) (N : Nat) (so : Option Addr) (sc : Nat) (m : List (List UInt8)) (w : World) (H : JOk w j p kb mb n left lo lc l N) (hN : N < 255)
    (hS : Strs w so sc m) (hso : ∀ ad, so = some ad → ad.block < w.heap.size ∧ ¬ FJ j p kb mb lo ad.block) (hm : ∀ r ∈ m, r.length ≤ 20000) (hr : takenM m ≤ limitM n) :
    Calls Tryz.prog 42 #[.pointer (some ⟨j, 0, none⟩), .slice so m.length sc] w fun e w' =>
      (e = .returned (.int .i64 0) ∧ ∃ lo' lc' left', left' ≤ left ∧ JOk w' j p kb mb n left' lo' lc' m (N + 1) ∧ (∀ k, FJ j p kb mb lo' k → FJ j p kb mb lo k ∨ w.heap.size ≤ k) ∧ OffF (FJ j p kb mb lo) w w') ∨
      (e = .returned (.int .i64 ((131 : Nat) : Int)) ∧ left ≠ 0 ∧ DCut w' p kb mb n (fun E => GoodL n E l (N + 1) ∨ GoodL n E m (N + 1)) ∧ (∃ h, Has w' j 75 (jnlC p h lo l.length lc true)) ∧ OffF (FJ j p kb mb lo) w w') := by
  obtain ⟨D, h, H1, g, hN'⟩ := H.ok
  have hlaid := laid_replace (d := ⟨D, [], left, false⟩) g hm hr
  have hnx : (nextM h ⟨0, 1 - h.half, 0, 0⟩ m).num ≤ N + 1 := by show h.num + 1 ≤ N + 1; omega
  refine (replace_any j p kb mb n ⟨D, [], left, false⟩ h lo lc l so sc m w H1 rfl rfl g.n0 g.half (by omega) hS hso hm hr).mono ?_
  rintro e w' (⟨rfl, d', lo', lc', hk, H', hF, ho⟩ | ⟨rfl, hne, d', hc, H', ho⟩)
  · left
    have hg := kept_good (d := ⟨D, [], left, false⟩) g (by omega) hlaid hk
    rw [kept_left hk] at H'
    exact ⟨rfl, lo', lc', d'.left, hk.left, ⟨_, _, H', hg, hnx⟩, hF, ho⟩
  · right
    refine ⟨rfl, hne, ⟨d', H'.disk, H'.disk.few, fun E ht => ?_⟩, ⟨h, H'.jnl⟩, ho⟩
    exact (cut_good (d := ⟨D, [], left, false⟩) g (by omega) hlaid hc ht).imp (fun g => ⟨h, g, by omega⟩) (fun g => ⟨_, g, hnx⟩)
theorem JOk.same {w w' : World} {j p kb mb n left : Nat} {lo : Option Addr} {lc : Nat} {l : List (List UInt8)} {N : Nat} (H : JOk w j p kb mb n left lo lc l N) (hb : But j w w') (hJ : ∀ h, Has w j 75 (jnlC p h lo l.length lc false) → Has w' j 75 (jnlC p h lo l.length lc false)) : JOk w' j p kb mb n left lo lc l N := by
  obtain ⟨D, h, H1, g, hN⟩ := H.ok
  exact ⟨D, h, H1.turn ((OffF.but hb).more (fun k hk => .inl hk)) (H1.disk.offs (OffF.but hb) (fun z => H1.jF (.inl z.symm)) (fun z => H1.jF (.inr (.inl z.symm))) (fun z => H1.jF (.inr (.inr z.symm)))) (hJ h H1.jnl), g, hN⟩
/-- What isn't taken: the journal stays as it was. -/
theorem append_no (j p kb mb n left : Nat) (lo : Option Addr) (lc : Nat) (l : List (List UInt8)) (N : Nat) (s : List UInt8) (w : World) (H : JOk w j p kb mb n left lo lc l N) (hs : 20000 < s.length ∨ ¬ takenM l + (s.length + 16) ≤ limitM n) :
    Calls Tryz.prog 40 #[.pointer (some ⟨j, 0, none⟩), strV s] w fun e w' => e = .returned (.int .i64 (if 20000 < s.length then 10 else 140)) ∧ JOk w' j p kb mb n left lo lc l N ∧ But j w w' := by
  obtain ⟨D, h, H1, g, hN⟩ := H.ok
  obtain ⟨f1, f2, f3, f4, f5⟩ := H.facts
  have fin : ∀ w', Has w' j 75 (jnlC p h lo l.length lc false) → But j w w' → JOk w' j p kb mb n left lo lc l N := fun w' h1 h2 => ⟨D, h, H1.turn ((OffF.but h2).more (fun k hk => .inl hk)) (H1.disk.offs (OffF.but h2) (fun z => H1.jF (.inl z.symm)) (fun z => H1.jF (.inr (.inl z.symm))) (fun z => H1.jF (.inr (.inr z.symm)))) h1, g, hN⟩
  by_cases hl : 20000 < s.length
  · rw [if_pos hl]
    refine (append_long j p l.length lc h lo s w H1.jnl hl).mono ?_
    rintro e w' ⟨rfl, h1, h2⟩
    exact ⟨rfl, fin w' h1 h2, h2⟩
  · rw [if_neg hl]
    refine (append_room j p kb mb n _ h lo lc l s w H1 f1 (by omega) f4 (hs.resolve_left hl)).mono ?_
    rintro e w' ⟨rfl, h1, h2⟩
    exact ⟨rfl, fin w' h1 h2, h2⟩
theorem replace_no (j p kb mb n left : Nat) (lo : Option Addr) (lc : Nat) (l : List (List UInt8)) (N : Nat) (so : Option Addr) (sc : Nat) (m : List (List UInt8)) (w : World) (H : JOk w j p kb mb n left lo lc l N) (hS : Strs w so sc m) (htm : takenM m ≤ 100000000) (hm : (∃ r ∈ m, 20000 < r.length) ∨ ((∀ r ∈ m, r.length ≤ 20000) ∧ ¬ takenM m ≤ limitM n)) :
    Calls Tryz.prog 42 #[.pointer (some ⟨j, 0, none⟩), .slice so m.length sc] w fun e w' => ((e = .returned (.int .i64 10) ∧ ∃ r ∈ m, 20000 < r.length) ∨ (e = .returned (.int .i64 140) ∧ ¬ takenM m ≤ limitM n)) ∧ JOk w' j p kb mb n left lo lc l N ∧ But j w w' := by
  obtain ⟨D, h, H1, g, hN⟩ := H.ok
  have fin : ∀ w', Has w' j 75 (jnlC p h lo l.length lc false) → But j w w' → JOk w' j p kb mb n left lo lc l N := fun w' h1 h2 => ⟨D, h, H1.turn ((OffF.but h2).more (fun k hk => .inl hk)) (H1.disk.offs (OffF.but h2) (fun z => H1.jF (.inl z.symm)) (fun z => H1.jF (.inr (.inl z.symm))) (fun z => H1.jF (.inr (.inr z.symm)))) h1, g, hN⟩
  rcases hm with hl | ⟨hl, hr⟩
  · refine (replace_long j p l.length lc h lo so sc m w H1.jnl hS hl).mono ?_
    rintro e w' ⟨rfl, h1, h2⟩
    exact ⟨.inl ⟨rfl, hl⟩, fin w' h1 h2, h2⟩
  · refine (replace_room j p kb mb n _ h lo lc l so sc m w H1 g.n0 hS hl htm hr).mono ?_
    rintro e w' ⟨rfl, h1, h2⟩
    exact ⟨.inr ⟨rfl, hr⟩, fin w' h1 h2, h2⟩
/-- All, Room, Broken. -/
theorem all_face (j p kb mb n left : Nat) (lo : Option Addr) (lc : Nat) (l : List (List UInt8)) (N : Nat) (w : World) (H : JOk w j p kb mb n left lo lc l N) :
    Calls Tryz.prog 51 #[.pointer (some ⟨j, 0, none⟩)] w fun e w' => ∃ bo bc, e = .returned (.slice bo l.length bc) ∧ Strs w' bo bc l ∧ (∀ ad, bo = some ad → w.heap.size ≤ ad.block ∧ ad.block < w'.heap.size) ∧ Below w.heap.size w w' := by
  obtain ⟨D, h, H1, g, hN⟩ := H.ok
  obtain ⟨f1, f2, f3, f4, f5⟩ := H.facts
  refine (jall_any j p h lo lc l false w H1.jnl H1.strs.1 (by have := sheet_taken l; omega)).mono ?_
  rintro e w' ⟨bo, bc, rfl, hown, hb⟩
  obtain ⟨_, ao, c9, hv, hS, hf⟩ := strs_own hown
  cases hv
  exact ⟨bo, bc, rfl, hS, hf, hb⟩
theorem broken_face (j p kb mb n left : Nat) (lo : Option Addr) (lc : Nat) (l : List (List UInt8)) (N : Nat) (w : World) (H : JOk w j p kb mb n left lo lc l N) :
    Calls Tryz.prog 30 #[.pointer (some ⟨j, 0, none⟩)] w fun e w' => e = .returned (.bool false) ∧ w' = w := by
  obtain ⟨D, h, H1, g, hN⟩ := H.ok
  exact jbroken_any j p h lo l.length lc false w H1.jnl
end
end Go.Proofs.YtpnpjblohijajabGreat
