/- What package objects has to answer, as one bundle; that Do keeps what a base must be. -/
import Derived.Test.YtphlfepgaghhhaaRefSeen
import Derived.Test.YtphlfepgaghhhaaSlice
namespace Go.Proofs.Ytphlfepgaghhhaa
set_option linter.unusedSimpArgs false
set_option linter.unusedVariables false
open Go.RowKit

def opR (l : List OpV) : List (List Value) := l.map opL
def resR (l : List ResV) : List (List Value) := l.map resL

structure ObjSpec : Prop where
  isop : ∀ (o : OpV) (w : World), OpOk o → Calls Try.prog 75 #[.agg (opC o)] w fun e w' => e = .returned (.bool (isOpM o)) ∧ Below w.heap.size w w'
  writes : ∀ (o : OpV) (w : World), OpOk o → Calls Try.prog 65 #[.agg (opC o)] w fun e w' => e = .returned (.bool (writesM o)) ∧ Below w.heap.size w w'
  seen : ∀ (b : BaseV) (o : OpV) (w : World), BaseOk b → OpOk o → Calls Try.prog 76 #[.agg (baseC b), .agg (opC o)] w fun e w' => e = .returned (.tuple #[.agg (resC (seenM b o).1), .bool (seenM b o).2]) ∧ Below w.heap.size w w'
  do' : ∀ (b : BaseV) (o : OpV) (w : World), BaseOk b → OpOk o → Calls Try.prog 69 #[.agg (baseC b), .agg (opC o)] w fun e w' => e = .returned (.tuple #[.agg (baseC (doM b o).1), .agg (resC (doM b o).2)]) ∧ Below w.heap.size w w'

theorem fitS_len (n : Nat) (d : List UInt8) : (fitS n d).length = n := by
  unfold fitS
  rw [List.length_append, List.length_take, List.length_replicate]
  omega
theorem writeS_len (d s : List UInt8) (n : Nat) : (writeS d n s).length = max d.length (n + s.length) := by
  unfold writeS
  rw [List.length_append, List.length_append, fitS_len, List.length_drop]
  omega

/-- What an object's strings may have, behind a change. -/
structure ObjOk (x : ObjV) : Prop where
  data : x.data.length ≤ 1000
  a0 : x.a0.length ≤ 1000
  a1 : x.a1.length ≤ 1000
  a2 : x.a2.length ≤ 1000

theorem obj0_ok : ObjOk obj0 := ⟨by decide, by decide, by decide, by decide⟩

theorem change_ok {x : ObjV} {o : OpV} (h : ObjOk x) (hd : o.data.length ≤ 16) (hp : o.pos < 256) : ObjOk (changeM x o).1 := by
  unfold changeM
  split
  · split
    · exact h
    · refine ⟨?_, h.a0, h.a1, h.a2⟩
      show (writeS x.data o.pos o.data).length ≤ 1000
      have := h.data
      rw [writeS_len]
      omega
  · split
    · split
      · exact h
      · split
        · exact h
        · refine ⟨?_, h.a0, h.a1, h.a2⟩
          show (fitS o.pos x.data).length ≤ 1000
          rw [fitS_len]
          omega
    · split
      · split
        · exact h
        · split
          · exact h
          · show ObjOk (x.setAttr o.pos o.data)
            unfold ObjV.setAttr
            split
            · exact ⟨h.data, by show o.data.length ≤ 1000; omega, h.a1, h.a2⟩
            · split
              · exact ⟨h.data, h.a0, by show o.data.length ≤ 1000; omega, h.a2⟩
              · exact ⟨h.data, h.a0, h.a1, by show o.data.length ≤ 1000; omega⟩
      · split
        · exact h
        · exact obj0_ok

theorem code_le (x : ObjV) (o : OpV) : (changeM x o).2 ≤ 3 := by
  unfold changeM
  repeat' split
  all_goals simp

theorem BaseOk.obj {b : BaseV} (h : BaseOk b) (i : Fin 6) : ObjOk (b.obj i) := ⟨h.data i, h.a0 i, h.a1 i, h.a2 i⟩
theorem BaseOk.of {b : BaseV} (h1 : ∀ i, ObjOk (b.obj i)) (h2 : ∀ i, (b.last i).seq < 4294967296 ∧ (b.last i).r.code < 256 ∧ (b.last i).r.data.length ≤ 9223372036854775807) : BaseOk b :=
  ⟨fun i => (h2 i).1, fun i => (h2 i).2.1, fun i => (h2 i).2.2, fun i => (h1 i).data, fun i => (h1 i).a0, fun i => (h1 i).a1, fun i => (h1 i).a2⟩
theorem base0_ok : BaseOk base0 := BaseOk.of (fun _ => obj0_ok) (fun _ => ⟨by show 0 < _; decide, by show 0 < _; decide, by show 0 ≤ _; decide⟩)

theorem objOf_ok {b : BaseV} (h : BaseOk b) (o : OpV) : ObjOk (objOf b o) := by
  unfold objOf
  split
  · exact h.obj _
  · exact obj0_ok

theorem putObj_ok {b : BaseV} (h : BaseOk b) (o : OpV) {x : ObjV} (hx : ObjOk x) : BaseOk (putObj b o x) := by
  unfold putObj
  split
  · refine BaseOk.of (fun i => ?_) (fun i => ⟨h.seq i, h.code i, h.rdata i⟩)
    show ObjOk (if i = _ then x else b.obj i)
    split
    · exact hx
    · exact h.obj i
  · exact h
theorem putLast_ok {b : BaseV} (h : BaseOk b) (o : OpV) {l : LastV} (h1 : l.seq < 4294967296) (h2 : l.r.code < 256) (h3 : l.r.data.length ≤ 9223372036854775807) : BaseOk (putLast b o l) := by
  unfold putLast
  split
  · refine BaseOk.of (fun i => h.obj i) (fun i => ?_)
    show (if i = _ then l else b.last i).seq < _ ∧ (if i = _ then l else b.last i).r.code < _ ∧ (if i = _ then l else b.last i).r.data.length ≤ _
    split
    · exact ⟨h1, h2, h3⟩
    · exact ⟨h.seq i, h.code i, h.rdata i⟩
  · exact h

theorem seen_ok {b : BaseV} (h : BaseOk b) (o : OpV) : (seenM b o).1.code < 256 ∧ (seenM b o).1.data.length ≤ 9223372036854775807 := by
  have hl : (lastOf b o).r.code < 256 ∧ (lastOf b o).r.data.length ≤ 9223372036854775807 := by
    unfold lastOf
    split
    · exact ⟨h.code _, h.rdata _⟩
    · exact ⟨by show 0 < _; decide, by show 0 ≤ _; decide⟩
  unfold seenM
  split
  · split
    · exact ⟨by show 0 < _; decide, by show 0 ≤ _; decide⟩
    · split
      · exact hl
      · exact ⟨by show 3 < _; decide, by show 0 ≤ _; decide⟩
  · exact ⟨by show 0 < _; decide, by show 0 ≤ _; decide⟩

theorem do_ok {b : BaseV} (h : BaseOk b) {o : OpV} (ho : OpOk o) : BaseOk (doM b o).1 ∧ (doM b o).2.code < 256 ∧ (doM b o).2.data.length ≤ 9223372036854775807 := by
  unfold doM
  split
  · rename_i hw
    obtain ⟨_, _, _, _, _, hd⟩ := writes_client hw
    split
    · exact ⟨h, seen_ok h o⟩
    · have hc := code_le (objOf b o) o
      exact ⟨putLast_ok (putObj_ok h o (change_ok (objOf_ok h o) hd ho.pos)) o ho.seq (show (changeM (objOf b o) o).2 < 256 by omega) (by show 0 ≤ _; decide), show (changeM (objOf b o) o).2 < 256 by omega, by show 0 ≤ _; decide⟩
  · exact ⟨h, by show 3 < _; decide, by show 0 ≤ _; decide⟩
end Go.Proofs.Ytphlfepgaghhhaa
