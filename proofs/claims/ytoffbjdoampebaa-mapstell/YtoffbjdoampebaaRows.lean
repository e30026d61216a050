/-
  No cell of these rows narrows 'for every input' (looked for: loops, veiled, ifaces, maps, wideKeys, modest, calm, conditions, laid).
  DERIVED. THE GIVEN ROWS OF THIS SEAT. 6 by the template 'for every input the law returns true; each argument reads behind the call as it read before'; 0 by the template 'total and deterministic' (their statements: YtoffbjdoampebaaTotals.lean).
  GIVEN WITH THE SEED: the statements are not yours to turn. If you find one false, say at which input.
  Laid BY PROGRAM, IN A SANDBOX (cutbox-rows.mjs): the forced cells as the released guide's own fill.sh prints them over the translation 21db7c829d6ffd75… (all of the seat's roots in one cut). By AI agents, Wed Nov 11 2026. No macro, syntax, notation, axiom, sorry.
-/
import Derived.Test.YtoffbjdoampebaaChecked
import GoSem.Claim
import GoSem.ClaimJoined
import GoSem.ClaimMapViews
import Derived.JoinedTies
import Derived.KernelRfl
namespace Go.Proofs.Ytoffbjdoampebaa
/- THE CELL 'sum', in the pinned program and in every row, IS THE sha256 OF THE DUMP (.gsa) THAT YtoffbjdoampebaaProg.lean LOADS. Nothing in Lean hashes anything: it is a label: what it is worth is what the hold of that sum in a sandbox is worth. -/
noncomputable def Try.pinned : Pinned := { name := "ytoffbjdoampebaa", sum := "21db7c829d6ffd750f8922be6186fbfb2a9ee07a689c8bfc48371a0be8263d68", checked := Try.checked }
namespace Rows
def none {H : Type} : Left H := { results := [], args := [] }

/-- 'paddocklaw3.MapsTell': WHATEVER THE INPUT: true; the input reads as it did. -/
def mapsTellSpec : ChangeSpec := { name := "mapsTell", fn := fun _ => fun
  | [d1, d2] => { results := [.lit (.bool true)], args := [d1, d2] }
  | _ => none }
def mapsTellRow : OpenClaim := { program := "ytoffbjdoampebaa", sum := "21db7c829d6ffd750f8922be6186fbfb2a9ee07a689c8bfc48371a0be8263d68", func := "paddock/paddocklaw3.MapsTell", spec := "mapsTell", unfollowed := true, recurses := true, apart := false }
def MapsTellSaid : Prop := mapsTellRow.holds Try.pinned (OpenSpec.ofChange mapsTellSpec)

/-- ITS FALSE NEIGHBOUR: 'it returns false'. Refute it at one input. -/
def mapsTellWrong : ChangeSpec := { name := "mapsTell", fn := fun _ => fun
  | [d1, d2] => { results := [.lit (.bool false)], args := [d1, d2] }
  | _ => none }
def MapsTellWrongFalsely : Prop := mapsTellRow.holds Try.pinned (OpenSpec.ofChange mapsTellWrong)

/-- 'paddocklaw3.MapsFold': WHATEVER THE INPUT: true; the input reads as it did. -/
def mapsFoldSpec : ChangeSpec := { name := "mapsFold", fn := fun _ => fun
  | [d] => { results := [.lit (.bool true)], args := [d] }
  | _ => none }
def mapsFoldRow : OpenClaim := { program := "ytoffbjdoampebaa", sum := "21db7c829d6ffd750f8922be6186fbfb2a9ee07a689c8bfc48371a0be8263d68", func := "paddock/paddocklaw3.MapsFold", spec := "mapsFold", unfollowed := true, recurses := true, apart := false }
def MapsFoldSaid : Prop := mapsFoldRow.holds Try.pinned (OpenSpec.ofChange mapsFoldSpec)

/-- ITS FALSE NEIGHBOUR: 'it returns false'. Refute it at one input. -/
def mapsFoldWrong : ChangeSpec := { name := "mapsFold", fn := fun _ => fun
  | [d] => { results := [.lit (.bool false)], args := [d] }
  | _ => none }
def MapsFoldWrongFalsely : Prop := mapsFoldRow.holds Try.pinned (OpenSpec.ofChange mapsFoldWrong)

/-- 'paddocklaw3.MapsTouch': WHATEVER THE INPUT: true; the input reads as it did. -/
def mapsTouchSpec : ChangeSpec := { name := "mapsTouch", fn := fun _ => fun
  | [d1, d2] => { results := [.lit (.bool true)], args := [d1, d2] }
  | _ => none }
def mapsTouchRow : OpenClaim := { program := "ytoffbjdoampebaa", sum := "21db7c829d6ffd750f8922be6186fbfb2a9ee07a689c8bfc48371a0be8263d68", func := "paddock/paddocklaw3.MapsTouch", spec := "mapsTouch", unfollowed := true, recurses := true, apart := false }
def MapsTouchSaid : Prop := mapsTouchRow.holds Try.pinned (OpenSpec.ofChange mapsTouchSpec)

/-- ITS FALSE NEIGHBOUR: 'it returns false'. Refute it at one input. -/
def mapsTouchWrong : ChangeSpec := { name := "mapsTouch", fn := fun _ => fun
  | [d1, d2] => { results := [.lit (.bool false)], args := [d1, d2] }
  | _ => none }
def MapsTouchWrongFalsely : Prop := mapsTouchRow.holds Try.pinned (OpenSpec.ofChange mapsTouchWrong)

/-- 'paddocklaw3.MapsMany': WHATEVER THE INPUT: true; the input reads as it did. -/
def mapsManySpec : ChangeSpec := { name := "mapsMany", fn := fun _ => fun
  | [d1, d2] => { results := [.lit (.bool true)], args := [d1, d2] }
  | _ => none }
def mapsManyRow : OpenClaim := { program := "ytoffbjdoampebaa", sum := "21db7c829d6ffd750f8922be6186fbfb2a9ee07a689c8bfc48371a0be8263d68", func := "paddock/paddocklaw3.MapsMany", spec := "mapsMany", unfollowed := true, recurses := true, apart := false }
def MapsManySaid : Prop := mapsManyRow.holds Try.pinned (OpenSpec.ofChange mapsManySpec)

/-- ITS FALSE NEIGHBOUR: 'it returns false'. Refute it at one input. -/
def mapsManyWrong : ChangeSpec := { name := "mapsMany", fn := fun _ => fun
  | [d1, d2] => { results := [.lit (.bool false)], args := [d1, d2] }
  | _ => none }
def MapsManyWrongFalsely : Prop := mapsManyRow.holds Try.pinned (OpenSpec.ofChange mapsManyWrong)

/-- 'paddocklaw3.MapsBounds': WHATEVER THE INPUT: true; the input reads as it did. -/
def mapsBoundsSpec : ChangeSpec := { name := "mapsBounds", fn := fun _ => fun
  | [d1, d2, d3, d4] => { results := [.lit (.bool true)], args := [d1, d2, d3, d4] }
  | _ => none }
def mapsBoundsRow : OpenClaim := { program := "ytoffbjdoampebaa", sum := "21db7c829d6ffd750f8922be6186fbfb2a9ee07a689c8bfc48371a0be8263d68", func := "paddock/paddocklaw3.MapsBounds", spec := "mapsBounds", unfollowed := true, recurses := true, apart := false }
def MapsBoundsSaid : Prop := mapsBoundsRow.holds Try.pinned (OpenSpec.ofChange mapsBoundsSpec)

/-- ITS FALSE NEIGHBOUR: 'it returns false'. Refute it at one input. -/
def mapsBoundsWrong : ChangeSpec := { name := "mapsBounds", fn := fun _ => fun
  | [d1, d2, d3, d4] => { results := [.lit (.bool false)], args := [d1, d2, d3, d4] }
  | _ => none }
def MapsBoundsWrongFalsely : Prop := mapsBoundsRow.holds Try.pinned (OpenSpec.ofChange mapsBoundsWrong)

/-- 'paddocklaw3.MapsIncs': WHATEVER THE INPUT: true; the input reads as it did. -/
def mapsIncsSpec : ChangeSpec := { name := "mapsIncs", fn := fun _ => fun
  | [d1, d2, d3] => { results := [.lit (.bool true)], args := [d1, d2, d3] }
  | _ => none }
def mapsIncsRow : OpenClaim := { program := "ytoffbjdoampebaa", sum := "21db7c829d6ffd750f8922be6186fbfb2a9ee07a689c8bfc48371a0be8263d68", func := "paddock/paddocklaw3.MapsIncs", spec := "mapsIncs", unfollowed := true, recurses := true, apart := false }
def MapsIncsSaid : Prop := mapsIncsRow.holds Try.pinned (OpenSpec.ofChange mapsIncsSpec)

/-- ITS FALSE NEIGHBOUR: 'it returns false'. Refute it at one input. -/
def mapsIncsWrong : ChangeSpec := { name := "mapsIncs", fn := fun _ => fun
  | [d1, d2, d3] => { results := [.lit (.bool false)], args := [d1, d2, d3] }
  | _ => none }
def MapsIncsWrongFalsely : Prop := mapsIncsRow.holds Try.pinned (OpenSpec.ofChange mapsIncsWrong)

/- THE SECOND FORM. 'bulk': how many values and letters a reading holds, each counted each time it is reached (what is shared counts as often as it is met; a slice's spare places count too). A statement '..UptoSaid' is the law's where the arguments, and the package variables that the reading takes, are together of bulk at most 1048576: NARROWER than '..Said'. Prove '..Said' where nothing that the law and all that it calls make is longer than what came in: it says more and counts as full. Else prove '..UptoSaid'. A law counts once. -/
mutual
def uptoBulk {H : Type} : DataW H → Nat
  | .lit (.string bytes) => bytes.length + 1
  | .lit _ => 1
  | .nil => 1
  | .ptr d => uptoBulk d + 1
  | .slice elems spare => uptoBulkAll elems + uptoBulkAll spare + 1
  | .agg parts => uptoBulkAll parts + 1
  | .iface _ d => uptoBulk d + 1
  | .map entries => uptoBulkEntries entries + 1
  | .held _ => 1
def uptoBulkAll {H : Type} : List (DataW H) → Nat
  | [] => 0
  | d :: r => uptoBulk d + uptoBulkAll r
def uptoBulkEntries {H : Type} : List (Lit × DataW H) → Nat
  | [] => 0
  | x :: r => uptoBulkEntry x + uptoBulkEntries r
def uptoBulkEntry {H : Type} : Lit × DataW H → Nat
  | (.string bytes, d) => bytes.length + uptoBulk d + 1
  | (_, d) => uptoBulk d + 1
 end
def uptoSmall : (H : Type) → List (DataW H) → Bool := fun _ ds => decide (uptoBulkAll ds ≤ 1048576)
def OpenSpec.upto (s : _root_.Go.ChangeSpec) : _root_.Go.OpenSpec := { _root_.Go.OpenSpec.ofChange s with cond := some uptoSmall }

/-- 'paddocklaw3.MapsTell', WHERE WHAT IT READS IS OF BULK AT MOST 1048576: true; the input reads as it did. -/
def mapsTellUptoRow : OpenClaim := { program := "ytoffbjdoampebaa", sum := "21db7c829d6ffd750f8922be6186fbfb2a9ee07a689c8bfc48371a0be8263d68", func := "paddock/paddocklaw3.MapsTell", spec := "mapsTell", unfollowed := true, recurses := true, apart := false, narrowed := true }
def MapsTellUptoSaid : Prop := mapsTellUptoRow.holds Try.pinned (OpenSpec.upto mapsTellSpec)

/-- 'paddocklaw3.MapsFold', WHERE WHAT IT READS IS OF BULK AT MOST 1048576: true; the input reads as it did. -/
def mapsFoldUptoRow : OpenClaim := { program := "ytoffbjdoampebaa", sum := "21db7c829d6ffd750f8922be6186fbfb2a9ee07a689c8bfc48371a0be8263d68", func := "paddock/paddocklaw3.MapsFold", spec := "mapsFold", unfollowed := true, recurses := true, apart := false, narrowed := true }
def MapsFoldUptoSaid : Prop := mapsFoldUptoRow.holds Try.pinned (OpenSpec.upto mapsFoldSpec)

/-- 'paddocklaw3.MapsTouch', WHERE WHAT IT READS IS OF BULK AT MOST 1048576: true; the input reads as it did. -/
def mapsTouchUptoRow : OpenClaim := { program := "ytoffbjdoampebaa", sum := "21db7c829d6ffd750f8922be6186fbfb2a9ee07a689c8bfc48371a0be8263d68", func := "paddock/paddocklaw3.MapsTouch", spec := "mapsTouch", unfollowed := true, recurses := true, apart := false, narrowed := true }
def MapsTouchUptoSaid : Prop := mapsTouchUptoRow.holds Try.pinned (OpenSpec.upto mapsTouchSpec)

/-- 'paddocklaw3.MapsMany', WHERE WHAT IT READS IS OF BULK AT MOST 1048576: true; the input reads as it did. -/
def mapsManyUptoRow : OpenClaim := { program := "ytoffbjdoampebaa", sum := "21db7c829d6ffd750f8922be6186fbfb2a9ee07a689c8bfc48371a0be8263d68", func := "paddock/paddocklaw3.MapsMany", spec := "mapsMany", unfollowed := true, recurses := true, apart := false, narrowed := true }
def MapsManyUptoSaid : Prop := mapsManyUptoRow.holds Try.pinned (OpenSpec.upto mapsManySpec)

/-- 'paddocklaw3.MapsBounds', WHERE WHAT IT READS IS OF BULK AT MOST 1048576: true; the input reads as it did. -/
def mapsBoundsUptoRow : OpenClaim := { program := "ytoffbjdoampebaa", sum := "21db7c829d6ffd750f8922be6186fbfb2a9ee07a689c8bfc48371a0be8263d68", func := "paddock/paddocklaw3.MapsBounds", spec := "mapsBounds", unfollowed := true, recurses := true, apart := false, narrowed := true }
def MapsBoundsUptoSaid : Prop := mapsBoundsUptoRow.holds Try.pinned (OpenSpec.upto mapsBoundsSpec)

/-- 'paddocklaw3.MapsIncs', WHERE WHAT IT READS IS OF BULK AT MOST 1048576: true; the input reads as it did. -/
def mapsIncsUptoRow : OpenClaim := { program := "ytoffbjdoampebaa", sum := "21db7c829d6ffd750f8922be6186fbfb2a9ee07a689c8bfc48371a0be8263d68", func := "paddock/paddocklaw3.MapsIncs", spec := "mapsIncs", unfollowed := true, recurses := true, apart := false, narrowed := true }
def MapsIncsUptoSaid : Prop := mapsIncsUptoRow.holds Try.pinned (OpenSpec.upto mapsIncsSpec)

end Rows
end Go.Proofs.Ytoffbjdoampebaa
