/- Package history at 3d9cd16 answers as it has to: the bundle is paid. -/
import Derived.Test.YtlbokkbngbpmiaaHistNew
import Derived.Test.YtlbokkbngbpmiaaHistAdd
import Derived.Test.YtlbokkbngbpmiaaHistIv
namespace Go.Proofs.Ytlbokkbngbpmiaa
set_option linter.unusedSimpArgs false
set_option linter.unusedVariables false
open Go.RowKit

theorem fresh_of {w : World} {p b c : Nat} (hp : w.heap.size ≤ p) (hb : w.heap.size ≤ b) (hc : w.heap.size ≤ c) : ∀ k, (k = p ∨ k = b ∨ k = c) → w.heap.size ≤ k := by
  intro k hk
  rcases hk with rfl | rfl | rfl <;> assumption

theorem hist_paid : HistSpec IsH where
  lt := isH_lt
  good := fun ⟨_, _, h, _⟩ => h.good
  kept := isH_kept
  new := fun w => (new_at w).mono fun e w' ⟨p, b, c, he, hI, hp, hb, hc, hB⟩ => ⟨p, fun k => k = p ∨ k = b ∨ k = c, he, ⟨b, c, hI, fun _ => Iff.rfl⟩, fresh_of hp hb hc, hB⟩
  add := fun {w p xs F} e x ⟨b, c, hI, hF⟩ he hx => (add_at p b c xs e x w hI he hx).mono fun en w' ⟨h1, h2, h3⟩ =>
    ⟨h1, ⟨F, ⟨b, c, h2, hF⟩, fun k hk => .inl hk⟩, ⟨h3.os, h3.tape, h3.output, h3.size, fun k hk hn => h3.block k hk (fun h => hn ((hF k).2 h))⟩⟩
  last := fun {w p xs F} ⟨b, c, hI, hF⟩ => (last_at p b c xs w hI).mono fun en w' ⟨h1, h2⟩ => ⟨h1, by rw [h2]; exact Below.refl _ _⟩
  acting := fun {w p xs F} g ⟨b, c, hI, hF⟩ hg => acting_at p b c g xs w hI hg
  since := fun {w p xs F} g ⟨b, c, hI, hF⟩ hg => since_at p b c g xs w hI hg
  intervals := fun {w p xs F} g ⟨b, c, hI, hF⟩ hg => intervals_at p b c g xs w hI hg
end Go.Proofs.Ytlbokkbngbpmiaa
