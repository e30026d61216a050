/- What package synod has to answer, in one bundle: 'Is w p v F': the pointer p is a proposer v, that lies in the blocks F. -/
import Derived.Test.YthpmkhbkbpifkaaProMath
import Derived.Test.YthpmkhbkbpifkaaBalMem
import Derived.Test.YthpmkhbkbpifkaaOffF
namespace Go.Proofs.Ythpmkhbkbpifkaa
set_option linter.unusedSimpArgs false
set_option linter.unusedVariables false
open Go.RowKit

/-- Numbers fit their kinds. -/
structure ProOk (v : ProV) : Prop where
  who : v.who < 256
  want : IncOk v.want
  b : BalOk v.b
  best : BalOk v.best
  bestX : IncOk v.bestX
  value : IncOk v.value
  dec : IncOk v.dec

theorem new_ok {k : Nat} {x : IncV} (hk : k < 256) (hx : IncOk x) : ProOk (newM k x) := ⟨hk, hx, bal0_ok, bal0_ok, inc0_ok, inc0_ok, inc0_ok⟩
theorem nextN_lt {n : Nat} (h : n < 4294967296) : nextN n < 4294967296 := by
  unfold nextN
  split <;> omega
theorem start_ok {v : ProV} {o : BalV} (h : ProOk v) (ho : BalOk o) : ProOk (startM v o) :=
  ⟨h.who, h.want, ⟨nextN_lt (by have := h.b.n; have := ho.n; omega), h.who⟩, bal0_ok, inc0_ok, inc0_ok, h.dec⟩
theorem hear_ok {v : ProV} {j : Nat} {acc : BalV} {x : IncV} {g : Bool} (h : ProOk v) (ha : BalOk acc) (hx : IncOk x) : ProOk (hearM v j acc x g) := by
  refine ⟨h.who, h.want, h.b, ?_, ?_, h.value, h.dec⟩
  · show BalOk (if _ then _ else _)
    split
    · exact ha
    · exact h.best
  · show IncOk (if _ then _ else _)
    split
    · exact hx
    · exact h.bestX
theorem prom_ok {v : ProV} {j : Nat} {b acc : BalV} {x : IncV} {g : Bool} (h : ProOk v) (ha : BalOk acc) (hx : IncOk x) : ProOk (promM v j b acc x g).1 := by
  unfold promM
  split
  · exact h
  · split
    · exact hear_ok h ha hx
    · have hh := hear_ok (j := j) (g := g) h ha hx
      refine ⟨hh.who, hh.want, hh.b, hh.best, hh.bestX, ?_, hh.dec⟩
      show IncOk (chosenX _)
      unfold chosenX
      split
      · exact hh.bestX
      · exact hh.want
theorem accd_ok {v : ProV} {j : Nat} {b : BalV} (h : ProOk v) : ProOk (accdM v j b).1 := by
  unfold accdM
  split
  · exact h
  · split
    · exact ⟨h.who, h.want, h.b, h.best, h.bestX, h.value, h.dec⟩
    · exact ⟨h.who, h.want, h.b, h.best, h.bestX, h.value, h.value⟩

def ptr11 (p : Nat) : Value := .pointer (some ⟨p, 0, none⟩)

structure ProSpec (Is : World → Nat → ProV → (Nat → Prop) → Prop) : Prop where
  kept : ∀ {w w' : World} {p : Nat} {v : ProV} {F : Nat → Prop}, Is w p v F → (∀ b, F b → w'.heap[b]? = w.heap[b]?) → Is w' p v F
  lt : ∀ {w : World} {p : Nat} {v : ProV} {F : Nat → Prop}, Is w p v F → ∀ b, F b → b < w.heap.size
  ok : ∀ {w : World} {p : Nat} {v : ProV} {F : Nat → Prop}, Is w p v F → ProOk v
  new : ∀ (who : Nat) (x : IncV) (w : World), who < 256 → IncOk x → Calls Try.prog 9 #[.int .u8 (who : Int), .agg (incC x)] w fun e w' => ∃ p F, e = .returned (ptr11 p) ∧ Is w' p (newM who x) F ∧ (∀ b, F b → w.heap.size ≤ b) ∧ Below w.heap.size w w'
  start : ∀ {w : World} {p : Nat} {v : ProV} {F : Nat → Prop} (o : BalV), Is w p v F → BalOk o → Calls Try.prog 10 #[ptr11 p, .agg (balC o)] w fun e w' => e = .returned (.agg (balC (startM v o).b)) ∧ (∃ F', Is w' p (startM v o) F' ∧ ∀ b, F' b → F b ∨ w.heap.size ≤ b) ∧ OffF F w w'
  promise : ∀ {w : World} {p : Nat} {v : ProV} {F : Nat → Prop} (j : Nat) (b acc : BalV) (x : IncV) (g : Bool), Is w p v F → j < 256 → BalOk b → BalOk acc → IncOk x → Calls Try.prog 12 #[ptr11 p, .int .u8 (j : Int), .agg (balC b), .agg (balC acc), .agg (incC x), .bool g] w fun e w' => e = .returned (.bool (promM v j b acc x g).2) ∧ (∃ F', Is w' p (promM v j b acc x g).1 F' ∧ ∀ b, F' b → F b ∨ w.heap.size ≤ b) ∧ OffF F w w'
  value : ∀ {w : World} {p : Nat} {v : ProV} {F : Nat → Prop}, Is w p v F → Calls Try.prog 16 #[ptr11 p] w fun e w' => ∃ y, e = .returned (.tuple #[.agg (incC y), .bool v.hasV]) ∧ IncOk y ∧ (v.hasV = true → y = v.value) ∧ Below w.heap.size w w'
  accepted : ∀ {w : World} {p : Nat} {v : ProV} {F : Nat → Prop} (j : Nat) (b : BalV), Is w p v F → j < 256 → BalOk b → Calls Try.prog 14 #[ptr11 p, .int .u8 (j : Int), .agg (balC b)] w fun e w' => e = .returned (.bool (accdM v j b).2) ∧ (∃ F', Is w' p (accdM v j b).1 F' ∧ ∀ b, F' b → F b ∨ w.heap.size ≤ b) ∧ OffF F w w'
  ballot : ∀ {w : World} {p : Nat} {v : ProV} {F : Nat → Prop}, Is w p v F → Calls Try.prog 18 #[ptr11 p] w fun e w' => e = .returned (.agg (balC v.b)) ∧ Below w.heap.size w w'
  decided : ∀ {w : World} {p : Nat} {v : ProV} {F : Nat → Prop}, Is w p v F → Calls Try.prog 17 #[ptr11 p] w fun e w' => ∃ y, e = .returned (.tuple #[.agg (incC y), .bool v.hasD]) ∧ IncOk y ∧ (v.hasD = true → y = v.dec) ∧ Below w.heap.size w w'
  quorum : ∀ w : World, Calls Try.prog 24 #[] w fun e w' => e = .returned (.int .i64 2) ∧ Below w.heap.size w w'

theorem ProSpec.later {Is : World → Nat → ProV → (Nat → Prop) → Prop} (S : ProSpec Is) {w w' : World} {p : Nat} {v : ProV} {F : Nat → Prop} (h : Is w p v F) (k : Below w.heap.size w w') : Is w' p v F := S.kept h fun b hb => k.block b (S.lt h b hb)
theorem ProSpec.drew {Is : World → Nat → ProV → (Nat → Prop) → Prop} (S : ProSpec Is) {w : World} {p : Nat} {v : ProV} {F : Nat → Prop} (h : Is w p v F) : Is w.drew p v F := S.kept h fun _ _ => rfl
theorem ProSpec.off {Is : World → Nat → ProV → (Nat → Prop) → Prop} (S : ProSpec Is) {w w' : World} {p : Nat} {v : ProV} {F G : Nat → Prop} (h : Is w p v F) (k : OffF G w w') (hd : ∀ b, F b → ¬ G b) : Is w' p v F := S.kept h fun b hb => k.block b (S.lt h b hb) (hd b hb)
end Go.Proofs.Ythpmkhbkbpifkaa
