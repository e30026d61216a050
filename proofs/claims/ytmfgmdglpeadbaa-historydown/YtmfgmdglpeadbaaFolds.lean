/- The document's Fold, In and Up, as mathematics. -/
import Derived.Test.YtmfgmdglpeadbaaMapMath
namespace Go.Proofs.Ytmfgmdglpeadbaa
set_option linter.unusedSimpArgs false
set_option linter.unusedVariables false

/-- What Apply says: 0, or that it is none. -/
def errI (ok : Bool) : Int := if ok then 0 else 40

theorem errI_bd (ok : Bool) : 0 ≤ errI ok ∧ errI ok ≤ 40 := by cases ok <;> decide

/-- A row of increments applied, from a map on: the map, and whether all went. -/
def foldFrom (m : MapV) : List IncV → MapV × Bool
  | [] => (m, true)
  | x :: l => if okA m x then foldFrom (nextM m x) l else (zeroM, false)

def foldM (l : List IncV) : MapV × Bool := foldFrom firstM l

/-- The daemons, rising, of which something holds. -/
def pickL (p : OsdV → Bool) (m : MapV) : List Int := ((List.finRange 5).filter fun i => p (m.osd i)).map fun i => (i.val : Int)

def inL (m : MapV) : List Int := pickL (fun o => decide (0 < o.wt)) m
def upL (m : MapV) : List Int := pickL (fun o => o.up) m
end Go.Proofs.Ytmfgmdglpeadbaa
