/- The contract of paddocklaw1.known over this seat's program: it returns true. -/
import Derived.Test.YtikidllbbokboaaGet
import Derived.Laws.IdiomStrings
namespace Go.Proofs.Ytikidllbbokboaa
open Go.RowKit

theorem str_of {w : World} {ao : Option Addr} {c n : Nat} {xs : List UInt8} (h : By w ao c xs) (hn : n = xs.length) :
    (convert 22 9 (.slice ao n c)).run Try.prog w = .ok (.string ⟨xs.toArray⟩) w := by
  subst hn
  cases ao with
  | none =>
    have h0 : xs = [] := by have := h.nil rfl; have := h.le; exact List.eq_nil_of_length_eq_zero (by omega)
    subst h0
    rw [run_convert_bytes_string w 22 9 5 _ _ c Try.underlying22 Try.underlying5 Try.underlying9]
    simp [Conv.bytesToString]
    rfl
  | some ad => exact run_convert_bytes_back w 22 9 5 ad c xs Try.underlying22 Try.underlying5 Try.underlying9 (fun j hj => h.cell j hj)

/-- Three bytes in a new block. -/
theorem by_three (w : World) : By (w.alloc (.cells #[.int .u8 1, .int .u8 2, .int .u8 3] 5)) (some ⟨w.heap.size, 0, none⟩) 3 [1, 2, 3] := by
  refine ⟨by decide, by decide, (fun h => by cases h), fun ad had j u hu => ?_⟩
  obtain rfl := Option.some.inj had
  rw [Addr.add_lit]
  match j, hu with
  | 0, hu => simp [Bs, B] at hu; subst hu; simp [go_sem]
  | 1, hu => simp [Bs, B] at hu; subst hu; simp [go_sem]
  | 2, hu => simp [Bs, B] at hu; subst hu; simp [go_sem]

theorem sum_nil (w : World) : Calls Try.prog 12 #[.slice none 0 0] w fun e w' => e = .returned (.int .u64 14695981039346656037) ∧ w' = w :=
  sum_any none 0 0 [] w (By.nothing w) rfl

theorem mix_zero (w : World) : Calls Try.prog 14 #[.int .u64 0] w fun e w' => e = .returned (.int .u64 0) ∧ w' = w := by
  have h := mix_any 0 w (by decide) (by decide)
  have e : ((mixN (Int.toNat 0) : Nat) : Int) = 0 := by decide
  rw [e] at h
  exact h

theorem group_zero (w : World) : Calls Try.prog 18 #[.int .u8 0] w fun e w' => e = .returned (.int .u8 0) ∧ w' = w := by
  have h := group_any 0 w (by decide) (by decide)
  have e : ((mixN (Int.toNat 0) % 4 : Nat) : Int) = 0 := by decide
  rw [e] at h
  exact h

theorem put_three (w : World) : Calls Try.prog 20 #[.slice none 0 0, .int .u64 258, .int .i64 3] w fun e w' =>
      e = .returned (.slice (some ⟨w.heap.size, 0, none⟩) 3 3) ∧ (convert 22 9 (.slice (some ⟨w.heap.size, 0, none⟩) 3 3)).run Try.prog w' = .ok (.string ⟨#[0, 1, 2]⟩) w' ∧ Below w.heap.size w w' := by
  refine (put_new 258 3 3 w (by decide) (by decide) (by decide)).mono ?_
  rintro e w' ⟨rfl, hB, hb⟩
  have e2 : putB (Int.toNat 258) 3 = [0, 1, 2] := by decide
  rw [e2] at hB
  exact ⟨rfl, str_of hB rfl, hb⟩

set_option maxHeartbeats 800000 in
theorem known_any (w : World) : Calls Try.prog 9 #[] w fun e w' => e = .returned (.bool true) ∧ Below w.heap.size w w' := by
  have e1 : heldI 2 = 2 := by decide
  have e2 : heldI 3 = 3 := by decide
  have h3 := by_three w
  have bl : Below w.heap.size w (w.alloc (.cells #[.int .u8 1, .int .u8 2, .int .u8 3] 5)) := (Below.refl _ _).alloc (Nat.le_refl _) _
  go_enter Try.func9, Try.ntmps9
  go_wp2_with fail
  refine (get_ok (some ⟨w.heap.size, 0, none⟩) 3 3 [1, 2, 3] 2 _ h3 rfl (by decide) (by decide)).mono ?_
  rintro e w1 ⟨g, c', rfl, hR, hb⟩
  have hb1 : Below w.heap.size w w1 := bl.trans (hb.mono (by simp))
  clear hb bl h3 hR e1 e2
  have e3 : (getN [1, 2] : Int) = 258 := by decide
  go_wp2_with fail
  refine (sum_nil _).mono ?_
  rintro e w' ⟨rfl, rfl⟩
  go_wp2_with fail
  refine (put_three _).mono ?_
  rintro e w2 ⟨rfl, hs, hb⟩
  have hb2 : Below w.heap.size w w2 := hb1.trans (hb.mono hb1.size)
  clear hb hb1
  go_wp2_with (first | (go_at_call 18; refine (group_zero _).mono ?_; rintro e w' ⟨rfl, rfl⟩) | (go_at_call 14; refine (mix_zero _).mono ?_; rintro e w' ⟨rfl, rfl⟩))
  go_ret
  exact ⟨rfl, hb2⟩
end Go.Proofs.Ytikidllbbokboaa
