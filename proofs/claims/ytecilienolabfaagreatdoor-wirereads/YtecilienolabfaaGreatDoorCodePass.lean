/- Who only looks, as a coder: it hands back what it is handed. -/
import Derived.Test.YtecilienolabfaaGreatDoorWalkMsg
namespace Go.Proofs.YtecilienolabfaaGreatDoor
set_option linter.unusedSimpArgs false
set_option linter.unusedVariables false
set_option maxRecDepth 100000
open Go.RowKit
def passV:Value:=.iface 103 (.agg #[])
def PassI:Inv:=fun _ _ F=>∀ k,¬ F k
theorem pass_ends {α:Type} {F:Nat → Prop} {w w':World} {t:List UInt8} {r:Except Nat (α × List UInt8)} {x:α} {V:α → Value} {e:Ending} (hI:∀ k,¬ F k) (hr:r = .ok (x,t)) (he:e = .returned (V x)) (hb:Below w.heap.size w w'):Ends PassI F w r V e w':=by
 subst hr
 exact ⟨F,he,hI,Stp.of hb⟩
set_option maxHeartbeats 1000000 in
theorem pass_one (w:World) (s:List UInt8) (F:Nat → Prop) (n:Nat) (hI:PassI w s F) (hn:n < 256):Calls Tryz.prog 66 #[.agg #[passV],.int .u8 (n:Nat)] w (Ends PassI F w (oneM PutC n s) fun m=>.int .u8 (m:Nat)):=by
 have hr:Hid _:=xel hn s
 replace hI:Hid _:=hI
 have hb:Hid (∀ o p,Below w.heap.size w ((w.alloc o).alloc p)):=fun o p=>((Below.refl _ _).alloc (Nat.le_refl _) _).alloc (by simp) _
 have hm:∀ W,(Go.method 333 103 (.agg #[]) "paddock/wire.number").run Tryz.prog W = .ok (164,.agg #[]) W:=fun _=>by kernel_rfl
 unfold passV
 go_enter Tryz.func66,Tryz.ntmps66
 go_wp2
 go_ret
 exact pass_ends hI.out hr.out (by first | rfl | (simp only [Array.getD];rfl)) (hb.out _ _)
set_option maxHeartbeats 1000000 in
theorem pass_four (w:World) (s:List UInt8) (F:Nat → Prop) (n:Nat) (hI:PassI w s F) (hn:n < 4294967296):Calls Tryz.prog 67 #[.agg #[passV],.int .u32 (n:Nat)] w (Ends PassI F w (fourM PutC n s) fun m=>.int .u32 (m:Nat)):=by
 have hr:Hid _:=xep hn s
 replace hI:Hid _:=hI
 have hb:Hid (∀ o p,Below w.heap.size w ((w.alloc o).alloc p)):=fun o p=>((Below.refl _ _).alloc (Nat.le_refl _) _).alloc (by simp) _
 have hm:∀ W,(Go.method 333 103 (.agg #[]) "paddock/wire.number").run Tryz.prog W = .ok (164,.agg #[]) W:=fun _=>by kernel_rfl
 unfold passV
 go_enter Tryz.func67,Tryz.ntmps67
 go_wp2
 go_ret
 exact pass_ends hI.out hr.out (by first | rfl | (simp only [Array.getD];rfl)) (hb.out _ _)
set_option maxHeartbeats 1000000 in
theorem pass_small (w:World) (s:List UInt8) (F:Nat → Prop) (n:Int) (hI:PassI w s F) (h0:-9223372036854775808 ≤ n) (h1:n ≤ 9223372036854775807):Calls Tryz.prog 105 #[.agg #[passV],.int .i64 n] w (Ends PassI F w (smallM PutC n s) fun m=>.int .i64 m):=by
 have hr:Hid _:=small_put h0 h1 s
 replace hI:Hid _:=hI
 have hb:Hid (∀ o p,Below w.heap.size w ((w.alloc o).alloc p)):=fun o p=>((Below.refl _ _).alloc (Nat.le_refl _) _).alloc (by simp) _
 have hm:∀ W,(Go.method 333 103 (.agg #[]) "paddock/wire.number").run Tryz.prog W = .ok (164,.agg #[]) W:=fun _=>by kernel_rfl
 have hz:wrap64 (IntKind.u64.wrap n) = n:=by rw [IntKind.wrap_u64];simp only [wrap64];omega
 unfold passV
 go_enter Tryz.func105,Tryz.ntmps105
 go_wp2
 go_ret
 exact pass_ends hI.out hr.out (by show Ending.returned (Value.int .i64 (wrap64 (IntKind.u64.wrap n))) = _;rw [hz]) (hb.out _ _)
set_option maxHeartbeats 1000000 in
theorem pass_data (w:World) (s:List UInt8) (F:Nat → Prop) (t:List UInt8) (hI:PassI w s F) (ht:t.length ≤ 80):Calls Tryz.prog 106 #[.agg #[passV],strV t] w (Ends PassI F w (dataM PutC t s) fun m=>strV m):=by
 have hr:Hid _:=data_put t s
 replace hI:Hid _:=hI
 have hb:Hid (∀ o p,Below w.heap.size w ((w.alloc o).alloc p)):=fun o p=>((Below.refl _ _).alloc (Nat.le_refl _) _).alloc (by simp) _
 have hm:∀ W,(Go.method 333 103 (.agg #[]) "paddock/wire.text").run Tryz.prog W = .ok (165,.agg #[]) W:=fun _=>by kernel_rfl
 unfold passV
 go_enter Tryz.func106,Tryz.ntmps106
 go_wp2
 go_ret
 exact pass_ends hI.out hr.out (by first | rfl | (simp only [Array.getD];rfl)) (hb.out _ _)
theorem pass_one' (n:Nat) (w:World) (hn:n < 256):Calls Tryz.prog 66 #[.agg #[passV],.int .u8 (n:Nat)] w fun e w'=>e = .returned (.int .u8 (n:Nat)) ∧ Below w.heap.size w w':=by
 refine (pass_one w [] (fun _=>False) n (fun _ h=>h) hn).mono ?_
 intro e w' h
 rw [xel hn] at h
 obtain ⟨F',he,hI,hs⟩:=h
 exact ⟨he,hs.off.below (fun _ h=>h.elim) (Nat.le_refl _)⟩
theorem passtxt_any (t:List UInt8) (k:Int) (w:World):Calls Tryz.prog 165 #[.agg #[],strV t,.int .i64 k] w fun e w'=>e = .returned (strV t) ∧ Below w.heap.size w w':=by
 have hb:Hid (∀ o,Below w.heap.size w (w.alloc o)):=fun o=>(Below.refl _ _).alloc (Nat.le_refl _) _
 go_enter Tryz.func165,Tryz.ntmps165
 go_wp2
 go_ret
 exact ⟨rfl,hb.out _⟩
theorem wb_res (c:Nat) (d:List UInt8):Tryz.prog.built 32 [(0,.int .u8 (c:Int)),(1,strV d)] = some (resC ⟨c,d⟩):=by kernel_rfl
set_option maxHeartbeats 4000000 in
theorem pass_res (w:World) (s:List UInt8) (F:Nat → Prop) (r:ResV) (hI:PassI w s F) (hc:r.code < 256) (hd:r.data.length ≤ 80):Calls Tryz.prog 74 #[.agg #[passV],.agg (resC r)] w (Ends PassI F w (resM PutC r s) fun m=>.agg (resC m)):=by
 have hr:Hid _:=res_put hc s
 obtain ⟨w1,hw1,hW,hX,hR,hb⟩:=three_vars w 82 32 32 #[passV] (resC r) (resC res0)
 have hm:∀ W,(Go.method 333 103 (.agg #[]) "paddock/wire.text").run Tryz.prog W = .ok (165,.agg #[]) W:=fun _=>by kernel_rfl
 go_enter Tryz.func74,Tryz.ntmps74
 go_wp2_with (first
  | (refine xac (by rfl) 32 rfl (resC res0) res_zero ?_;rw [hw1];clear hw1;simp only [xgs]))
 replace hW:=hW.drew
 replace hX:=hX.drew
 replace hR:=hR.drew
 replace hb:=hb.drew
 refine xas (fun W=>Has W w.heap.size 82 #[passV] ∧ Has W (w.heap.size + 1) 32 (resC r)) (Plan.of [(0,true),(1,true),(2,true),(4,true),(5,true),(6,true),(7,true),(3,false),(8,false),(9,true),(10,false)] .done) (by kernel_rfl) (by kernel_rfl) (by kernel_rfl) (by kernel_rfl) ⟨hW,hX⟩ ?_
 generalize w1.drew = w1 at *
 refine xaa _ _ rfl (xan (by rfl) 82 _ rfl w.heap.size rfl 82 #[passV] _ Tryz.underlying82 rfl (xav passV) (fun W hS=>hS.1)) ?_
 try simp only [qp,qa,qb,qc]
 iterate 1
  first
   | (refine xad _ rfl (by rfl) ?_)
   | (refine xaa _ _ rfl (.inl ⟨by rfl,fun W hS=>by clear hS;go_simp;try with_reducible rfl⟩) ?_)
  try simp only [qp,qa,qb,qc]
 iterate 1
  first
   | (refine xad _ rfl (by rfl) ?_)
   | (refine xaa _ _ rfl (.inl ⟨by rfl,fun W hS=>by have z:W.cell? ⟨w.heap.size + 1,0,none⟩ = some (.int .u8 (r.code:Int)):=hS.2.cell 0;go_simp;try with_reducible rfl⟩) ?_)
  try simp only [qp,qa,qb,qc]
 iterate 1
  first
   | (refine xad _ rfl (by rfl) ?_)
   | (refine xaa _ _ rfl (.inl ⟨by rfl,fun W hS=>by clear hS;go_simp;try with_reducible rfl⟩) ?_)
  try simp only [qp,qa,qb,qc]
 iterate 1
  first
   | (refine xad _ rfl (by rfl) ?_)
   | (refine xaa _ _ rfl (.inl ⟨by rfl,fun W hS=>by have z:W.cell? ⟨w.heap.size,0,none⟩ = some (.iface 103 (.agg #[])):=hS.1.cell 0;go_simp;try with_reducible rfl⟩) ?_)
  try simp only [qp,qa,qb,qc]
 iterate 1
  first
   | (refine xad _ rfl (by rfl) ?_)
   | (refine xaa _ _ rfl (.inl ⟨by rfl,fun W hS=>by clear hS;go_simp;try with_reducible rfl⟩) ?_)
  try simp only [qp,qa,qb,qc]
 iterate 1
  first
   | (refine xad _ rfl (by rfl) ?_)
   | (refine xaa _ _ rfl (.inl ⟨by rfl,fun W hS=>by have z:W.cell? ⟨w.heap.size + 1,1,none⟩ = some (strV r.data):=hS.2.cell 1;go_simp;try with_reducible rfl⟩) ?_)
  try simp only [qp,qa,qb,qc]
 refine xam _ rfl (fun K hK=>?_)
 go_simp
 refine (pass_one' r.code _ hc).mono ?_
 rintro en w2 ⟨rfl,hq⟩
 replace hW:=hW.later hq
 replace hX:=hX.later hq
 replace hR:=hR.later hq
 replace hb:=hb.trans (hq.mono hb.size)
 refine hK.out _ _ ⟨hW,hX⟩ ?_
 clear hK K hq
 try simp only [qp,qa,qb,qc]
 refine xam _ rfl (fun K hK=>?_)
 go_simp
 refine (passtxt_any r.data 80 _).mono ?_
 rintro en w3 ⟨rfl,hq⟩
 replace hW:=hW.later hq
 replace hX:=hX.later hq
 replace hR:=hR.later hq
 replace hb:=hb.trans (hq.mono hb.size)
 refine hK.out _ _ ⟨hW,hX⟩ ?_
 clear hK K hq
 try simp only [qp,qa,qb,qc]
 refine xaa _ _ rfl (xat (by rfl) 32 _ rfl [(0,.int .u8 (r.code:Int)),(1,strV r.data)] rfl (resC r) (wb_res r.code r.data)) ?_
 try simp only [qp,qa,qb,qc]
 have hz:=hR.row (resC r)
 have hbz:=below_setRow hb (show w.heap.size ≤ w.heap.size + 1 + 1 by omega) (resC r)
 refine xbs _ rfl (by rfl) 32 _ _ rfl (w.heap.size + 1 + 1) rfl (resC r) rfl 32 (resC res0) (xeb _) rfl (res_one _) hR ⟨hW.row_other (by omega) _,hX.row_other (by omega) _⟩ ?_
 try simp only [qp,qa,qb,qc]
 refine xbf ?_
 go_wp2
 refine xba rfl (w.heap.size + 1 + 1) rfl 32 (resC r) _ Tryz.underlying32 rfl (xeb _) hz rfl (pass_ends hI hr.out rfl hbz)
theorem pass_coder:Coder False PutC passV PassI (fun _=>False) where
 kept:=fun w w' s F h _ _=>h
 lt:=fun w s F h k hk=>by
  rcases hk with q | q
  ·exact absurd q (h k)
  ·exact q.elim
 len:=fun n k s m t h=>by
  rw [put_num] at h
  injection h with h
  injection h with h1 h2
  exact .inl h1.symm
 one:=fun w s F n hI hn _=>pass_one w s F n hI hn
 four:=fun w s F n hI hn _=>pass_four w s F n hI hn
 small:=fun w s F n hI h0 h1 _=>pass_small w s F n hI h0 h1
 data:=fun w s F t hI ht _=>pass_data w s F t hI ht
 res:=fun w s F r hI hc hd _=>pass_res w s F r hI hc hd
end Go.Proofs.YtecilienolabfaaGreatDoor
