/-
  No cell of these rows narrows 'for every input' (looked for: loops, veiled, ifaces, maps, wideKeys, modest, calm, conditions, laid).
  DERIVED. THE GIVEN ROWS OF THIS SEAT. 6 by the template 'for every input the law returns true; each argument reads behind the call as it read before'; 0 by the template 'total and deterministic' (their statements: YtlcappkokdgpgaaTotals.lean).
  GIVEN WITH THE SEED: the statements are not yours to turn. If you find one false, say at which input.
  Laid BY PROGRAM, IN A SANDBOX (cutbox-rows.mjs): the forced cells as the released guide's own fill.sh prints them over the translation a1f8f4b62b0006c6… (all of the seat's roots in one cut). By AI agents, Wed Nov 11 2026. No macro, syntax, notation, axiom, sorry.
-/
import Derived.Test.YtlcappkokdgpgaaChecked
import GoSem.Claim
import GoSem.ClaimJoined
import GoSem.ClaimMapViews
import Derived.JoinedTies
import Derived.KernelRfl
namespace Go.Proofs.Ytlcappkokdgpgaa
/- THE CELL 'sum', in the pinned program and in every row, IS THE sha256 OF THE DUMP (.gsa) THAT YtlcappkokdgpgaaProg.lean LOADS. Nothing in Lean hashes anything: it is a label: what it is worth is what the hold of that sum in a sandbox is worth. -/
noncomputable def Try.pinned : Pinned := { name := "ytlcappkokdgpgaa", sum := "a1f8f4b62b0006c622e74895fda3d4b4eae90e9fc07a82edaf60cedfb6f32d1b", checked := Try.checked }
namespace Rows
def none {H : Type} : Left H := { results := [], args := [] }

/-- 'paddocklaw10.BallotPlays': WHATEVER THE INPUT: true; the input reads as it did. -/
def ballotPlaysSpec : ChangeSpec := { name := "ballotPlays", fn := fun _ => fun
  | [d] => { results := [.lit (.bool true)], args := [d] }
  | _ => none }
def ballotPlaysRow : OpenClaim := { program := "ytlcappkokdgpgaa", sum := "a1f8f4b62b0006c622e74895fda3d4b4eae90e9fc07a82edaf60cedfb6f32d1b", func := "paddock/paddocklaw10.BallotPlays", spec := "ballotPlays", apart := false }
def BallotPlaysSaid : Prop := ballotPlaysRow.holds Try.pinned (OpenSpec.ofChange ballotPlaysSpec)

/-- ITS FALSE NEIGHBOUR: 'it returns false'. Refute it at one input. -/
def ballotPlaysWrong : ChangeSpec := { name := "ballotPlays", fn := fun _ => fun
  | [d] => { results := [.lit (.bool false)], args := [d] }
  | _ => none }
def BallotPlaysWrongFalsely : Prop := ballotPlaysRow.holds Try.pinned (OpenSpec.ofChange ballotPlaysWrong)

/-- 'paddocklaw10.BallotOrder': WHATEVER THE INPUT: true; the input reads as it did. -/
def ballotOrderSpec : ChangeSpec := { name := "ballotOrder", fn := fun _ => fun
  | [d1, d2, d3] => { results := [.lit (.bool true)], args := [d1, d2, d3] }
  | _ => none }
def ballotOrderRow : OpenClaim := { program := "ytlcappkokdgpgaa", sum := "a1f8f4b62b0006c622e74895fda3d4b4eae90e9fc07a82edaf60cedfb6f32d1b", func := "paddock/paddocklaw10.BallotOrder", spec := "ballotOrder", apart := false }
def BallotOrderSaid : Prop := ballotOrderRow.holds Try.pinned (OpenSpec.ofChange ballotOrderSpec)

/-- ITS FALSE NEIGHBOUR: 'it returns false'. Refute it at one input. -/
def ballotOrderWrong : ChangeSpec := { name := "ballotOrder", fn := fun _ => fun
  | [d1, d2, d3] => { results := [.lit (.bool false)], args := [d1, d2, d3] }
  | _ => none }
def BallotOrderWrongFalsely : Prop := ballotOrderRow.holds Try.pinned (OpenSpec.ofChange ballotOrderWrong)

/-- 'paddocklaw10.BallotRises': WHATEVER THE INPUT: true; the input reads as it did. -/
def ballotRisesSpec : ChangeSpec := { name := "ballotRises", fn := fun _ => fun
  | [d] => { results := [.lit (.bool true)], args := [d] }
  | _ => none }
def ballotRisesRow : OpenClaim := { program := "ytlcappkokdgpgaa", sum := "a1f8f4b62b0006c622e74895fda3d4b4eae90e9fc07a82edaf60cedfb6f32d1b", func := "paddock/paddocklaw10.BallotRises", spec := "ballotRises", apart := false }
def BallotRisesSaid : Prop := ballotRisesRow.holds Try.pinned (OpenSpec.ofChange ballotRisesSpec)

/-- ITS FALSE NEIGHBOUR: 'it returns false'. Refute it at one input. -/
def ballotRisesWrong : ChangeSpec := { name := "ballotRises", fn := fun _ => fun
  | [d] => { results := [.lit (.bool false)], args := [d] }
  | _ => none }
def BallotRisesWrongFalsely : Prop := ballotRisesRow.holds Try.pinned (OpenSpec.ofChange ballotRisesWrong)

/-- 'paddocklaw10.BallotKeeps': WHATEVER THE INPUT: true; the input reads as it did. -/
def ballotKeepsSpec : ChangeSpec := { name := "ballotKeeps", fn := fun _ => fun
  | [d1, d2, d3, d4] => { results := [.lit (.bool true)], args := [d1, d2, d3, d4] }
  | _ => none }
def ballotKeepsRow : OpenClaim := { program := "ytlcappkokdgpgaa", sum := "a1f8f4b62b0006c622e74895fda3d4b4eae90e9fc07a82edaf60cedfb6f32d1b", func := "paddock/paddocklaw10.BallotKeeps", spec := "ballotKeeps", apart := false }
def BallotKeepsSaid : Prop := ballotKeepsRow.holds Try.pinned (OpenSpec.ofChange ballotKeepsSpec)

/-- ITS FALSE NEIGHBOUR: 'it returns false'. Refute it at one input. -/
def ballotKeepsWrong : ChangeSpec := { name := "ballotKeeps", fn := fun _ => fun
  | [d1, d2, d3, d4] => { results := [.lit (.bool false)], args := [d1, d2, d3, d4] }
  | _ => none }
def BallotKeepsWrongFalsely : Prop := ballotKeepsRow.holds Try.pinned (OpenSpec.ofChange ballotKeepsWrong)

/-- 'paddocklaw10.BallotNone': WHATEVER THE INPUT: true; the input reads as it did. -/
def ballotNoneSpec : ChangeSpec := { name := "ballotNone", fn := fun _ => fun
  | [d1, d2, d3] => { results := [.lit (.bool true)], args := [d1, d2, d3] }
  | _ => none }
def ballotNoneRow : OpenClaim := { program := "ytlcappkokdgpgaa", sum := "a1f8f4b62b0006c622e74895fda3d4b4eae90e9fc07a82edaf60cedfb6f32d1b", func := "paddock/paddocklaw10.BallotNone", spec := "ballotNone", apart := false }
def BallotNoneSaid : Prop := ballotNoneRow.holds Try.pinned (OpenSpec.ofChange ballotNoneSpec)

/-- ITS FALSE NEIGHBOUR: 'it returns false'. Refute it at one input. -/
def ballotNoneWrong : ChangeSpec := { name := "ballotNone", fn := fun _ => fun
  | [d1, d2, d3] => { results := [.lit (.bool false)], args := [d1, d2, d3] }
  | _ => none }
def BallotNoneWrongFalsely : Prop := ballotNoneRow.holds Try.pinned (OpenSpec.ofChange ballotNoneWrong)

/-- 'paddocklaw10.BallotMajorities': WHATEVER THE INPUT: true; the input reads as it did. -/
def ballotMajoritiesSpec : ChangeSpec := { name := "ballotMajorities", fn := fun _ => fun
  | [d1, d2, d3] => { results := [.lit (.bool true)], args := [d1, d2, d3] }
  | _ => none }
def ballotMajoritiesRow : OpenClaim := { program := "ytlcappkokdgpgaa", sum := "a1f8f4b62b0006c622e74895fda3d4b4eae90e9fc07a82edaf60cedfb6f32d1b", func := "paddock/paddocklaw10.BallotMajorities", spec := "ballotMajorities", apart := false }
def BallotMajoritiesSaid : Prop := ballotMajoritiesRow.holds Try.pinned (OpenSpec.ofChange ballotMajoritiesSpec)

/-- ITS FALSE NEIGHBOUR: 'it returns false'. Refute it at one input. -/
def ballotMajoritiesWrong : ChangeSpec := { name := "ballotMajorities", fn := fun _ => fun
  | [d1, d2, d3] => { results := [.lit (.bool false)], args := [d1, d2, d3] }
  | _ => none }
def BallotMajoritiesWrongFalsely : Prop := ballotMajoritiesRow.holds Try.pinned (OpenSpec.ofChange ballotMajoritiesWrong)

/- THE SECOND FORM. 'bulk': how many values and letters a reading holds, each counted each time it is reached (what is shared counts as often as it is met; a slice's spare places count too). A statement '..UptoSaid' is the law's where the arguments, and the package variables that the reading takes, are together of bulk at most 1048576: NARROWER than '..Said'. Prove '..Said' where nothing that the law and all that it calls make is longer than what came in: it says more and counts as full. Else prove '..UptoSaid'. A law counts once. -/
mutual
def uptoBulk {H : Type} : DataW H → Nat
  | .lit (.string bytes) => bytes.length + 1
  | .lit _ => 1
  | .nil => 1
  | .ptr d => uptoBulk d + 1
  | .slice elems spare => uptoBulkAll elems + uptoBulkAll spare + 1
  | .agg parts => uptoBulkAll parts + 1
  | .iface _ d => uptoBulk d + 1
  | .map entries => uptoBulkEntries entries + 1
  | .held _ => 1
def uptoBulkAll {H : Type} : List (DataW H) → Nat
  | [] => 0
  | d :: r => uptoBulk d + uptoBulkAll r
def uptoBulkEntries {H : Type} : List (Lit × DataW H) → Nat
  | [] => 0
  | x :: r => uptoBulkEntry x + uptoBulkEntries r
def uptoBulkEntry {H : Type} : Lit × DataW H → Nat
  | (.string bytes, d) => bytes.length + uptoBulk d + 1
  | (_, d) => uptoBulk d + 1
 end
def uptoSmall : (H : Type) → List (DataW H) → Bool := fun _ ds => decide (uptoBulkAll ds ≤ 1048576)
def OpenSpec.upto (s : _root_.Go.ChangeSpec) : _root_.Go.OpenSpec := { _root_.Go.OpenSpec.ofChange s with cond := some uptoSmall }

/-- 'paddocklaw10.BallotPlays', WHERE WHAT IT READS IS OF BULK AT MOST 1048576: true; the input reads as it did. -/
def ballotPlaysUptoRow : OpenClaim := { program := "ytlcappkokdgpgaa", sum := "a1f8f4b62b0006c622e74895fda3d4b4eae90e9fc07a82edaf60cedfb6f32d1b", func := "paddock/paddocklaw10.BallotPlays", spec := "ballotPlays", apart := false, narrowed := true }
def BallotPlaysUptoSaid : Prop := ballotPlaysUptoRow.holds Try.pinned (OpenSpec.upto ballotPlaysSpec)

/-- 'paddocklaw10.BallotOrder', WHERE WHAT IT READS IS OF BULK AT MOST 1048576: true; the input reads as it did. -/
def ballotOrderUptoRow : OpenClaim := { program := "ytlcappkokdgpgaa", sum := "a1f8f4b62b0006c622e74895fda3d4b4eae90e9fc07a82edaf60cedfb6f32d1b", func := "paddock/paddocklaw10.BallotOrder", spec := "ballotOrder", apart := false, narrowed := true }
def BallotOrderUptoSaid : Prop := ballotOrderUptoRow.holds Try.pinned (OpenSpec.upto ballotOrderSpec)

/-- 'paddocklaw10.BallotRises', WHERE WHAT IT READS IS OF BULK AT MOST 1048576: true; the input reads as it did. -/
def ballotRisesUptoRow : OpenClaim := { program := "ytlcappkokdgpgaa", sum := "a1f8f4b62b0006c622e74895fda3d4b4eae90e9fc07a82edaf60cedfb6f32d1b", func := "paddock/paddocklaw10.BallotRises", spec := "ballotRises", apart := false, narrowed := true }
def BallotRisesUptoSaid : Prop := ballotRisesUptoRow.holds Try.pinned (OpenSpec.upto ballotRisesSpec)

/-- 'paddocklaw10.BallotKeeps', WHERE WHAT IT READS IS OF BULK AT MOST 1048576: true; the input reads as it did. -/
def ballotKeepsUptoRow : OpenClaim := { program := "ytlcappkokdgpgaa", sum := "a1f8f4b62b0006c622e74895fda3d4b4eae90e9fc07a82edaf60cedfb6f32d1b", func := "paddock/paddocklaw10.BallotKeeps", spec := "ballotKeeps", apart := false, narrowed := true }
def BallotKeepsUptoSaid : Prop := ballotKeepsUptoRow.holds Try.pinned (OpenSpec.upto ballotKeepsSpec)

/-- 'paddocklaw10.BallotNone', WHERE WHAT IT READS IS OF BULK AT MOST 1048576: true; the input reads as it did. -/
def ballotNoneUptoRow : OpenClaim := { program := "ytlcappkokdgpgaa", sum := "a1f8f4b62b0006c622e74895fda3d4b4eae90e9fc07a82edaf60cedfb6f32d1b", func := "paddock/paddocklaw10.BallotNone", spec := "ballotNone", apart := false, narrowed := true }
def BallotNoneUptoSaid : Prop := ballotNoneUptoRow.holds Try.pinned (OpenSpec.upto ballotNoneSpec)

/-- 'paddocklaw10.BallotMajorities', WHERE WHAT IT READS IS OF BULK AT MOST 1048576: true; the input reads as it did. -/
def ballotMajoritiesUptoRow : OpenClaim := { program := "ytlcappkokdgpgaa", sum := "a1f8f4b62b0006c622e74895fda3d4b4eae90e9fc07a82edaf60cedfb6f32d1b", func := "paddock/paddocklaw10.BallotMajorities", spec := "ballotMajorities", apart := false, narrowed := true }
def BallotMajoritiesUptoSaid : Prop := ballotMajoritiesUptoRow.holds Try.pinned (OpenSpec.upto ballotMajoritiesSpec)

end Rows
end Go.Proofs.Ytlcappkokdgpgaa
