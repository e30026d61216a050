/- Differences in variables: their cells, what is built. -/
import Derived.Test.YtecilienolabfaaGreatDoorMergeMath
import Derived.Test.YtecilienolabfaaGreatDoorPackLog
namespace Go.Proofs.YtecilienolabfaaGreatDoor
set_option linter.unusedSimpArgs false
set_option linter.unusedVariables false
set_option maxRecDepth 100000
open Go.RowKit
section
variable (d:DiffV) (lo wo:Option Addr) (lc wc:Nat)
theorem xdw:(Tryz.prog.info? 46).map (·.size) = some (diffC d lo lc wo wc).size:=by show _ = some 52;kernel_rfl
theorem diff_same (d e:DiffV) (lo wo mo xo:Option Addr) (lc wc mc xc:Nat):(diffC d lo lc wo wc).size = (diffC e mo mc xo xc).size:=rfl
theorem diff_zero:(Tryz.prog.info? 46).map (·.zero) = some (some (.agg (diffC diff0 none 0 none 0))):=by kernel_rfl
theorem st_built_ends (n:Nat) (t:EntV):Tryz.prog.built 44 [(0,.int .u32 (n:Int)),(2,.agg (entC t))] = some (stC ⟨n,base0,t,[]⟩ none 0):=by kernel_rfl
theorem ent_built_n (n:Nat):Tryz.prog.built 41 [(1,.int .u32 (n:Int))] = some (entC ⟨0,n,op0⟩):=by kernel_rfl
end
theorem stL_one (s:StV) (ao:Option Addr) (c:Nat):∀ u ∈ stL s ao c,u.oneCell' = true:=by
 intro u hu
 have h:=st_one s ao c
 unfold stC at h
 simp only [List.all_toArray,List.all_eq_true] at h
 exact h u hu
theorem diff_one (d:DiffV) (lo wo:Option Addr) (lc wc:Nat):(diffC d lo lc wo wc).all (·.oneCell') = true:=by
 refine all_oneCell_toArray ?_
 intro u hu
 unfold diffL at hu
 rcases List.mem_cons.1 hu with rfl | hu
 ·rfl
 ·rcases List.mem_cons.1 hu with rfl | hu
  ·rfl
  ·rcases List.mem_cons.1 hu with rfl | hu
   ·rfl
   ·exact stL_one _ _ _ u hu
section
variable {w:World} {g:Nat} {d:DiffV} {lo wo:Option Addr} {lc wc:Nat}
theorem Has.d_kind (h:Has w g 46 (diffC d lo lc wo wc)):w.cell? ⟨g,0,none⟩ = some (.int .i64 d.kind):=(h.cell 0).trans rfl
theorem Has.d_from (h:Has w g 46 (diffC d lo lc wo wc)):w.cell? ⟨g,1,none⟩ = some (.int .u32 (d.fr:Int)):=(h.cell 1).trans rfl
theorem Has.d_log (h:Has w g 46 (diffC d lo lc wo wc)):w.cell? ⟨g,2,none⟩ = some (.slice lo d.log.length lc):=(h.cell 2).trans rfl
theorem Has.d_whole (h:Has w g 46 (diffC d lo lc wo wc)):w.rangeAt g 3 (stL d.whole wo wc):=h.range _ _ fun j v hj=>by
 unfold diffC diffL
 rw [List.getElem?_toArray,show 3 + j = j + 1 + 1 + 1 by omega,List.getElem?_cons_succ,List.getElem?_cons_succ,List.getElem?_cons_succ]
 exact hj
end
structure DiffOk (d:DiffV):Prop where
 kind1:-9223372036854775808 ≤ d.kind
 kind2:d.kind ≤ 9223372036854775807
 fr:d.fr < 4294967296
 log:∀ e ∈ d.log,EntOk e
 len:d.log.length ≤ 1000
 whole:StOk d.whole
theorem st0_fit:StOk st0:=⟨by show 0 < _;decide,base0_ok.in',⟨by show 0 < _;decide,by show 0 < _;decide,op0_ok⟩,(fun e he=>by cases he),by show 0 ≤ _;decide⟩
theorem ends_fit {s:StV} (hs:StOk s):StOk (endsM s):=⟨hs.started,base0_ok.in',hs.tail,(fun e he=>by cases he),by show 0 ≤ _;decide⟩
theorem diff0_fit:DiffOk diff0:=⟨by show (_:Int) ≤ 0;decide,by show (0:Int) ≤ _;decide,by show 0 < _;decide,(fun e he=>by cases he),by show 0 ≤ _;decide,st0_fit⟩
end Go.Proofs.YtecilienolabfaaGreatDoor
