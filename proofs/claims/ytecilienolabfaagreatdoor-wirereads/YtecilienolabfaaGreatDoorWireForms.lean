/- The contracts of wire's forms. Written by tools/ffgen.py. -/
import Derived.Test.YtecilienolabfaaGreatDoorWireSame
import Derived.Test.YtecilienolabfaaGreatDoorPackMaps
import Derived.Test.YtecilienolabfaaGreatDoorPackTools
namespace Go.Proofs.YtecilienolabfaaGreatDoor
set_option linter.unusedSimpArgs false
set_option linter.unusedVariables false
set_option maxRecDepth 100000
open Go.RowKit
theorem sideOf_any (n:Nat) (w:World) (hn:n < 256):Calls Tryz.prog 76 #[.int .u8 (n:Nat)] w fun e w'=>e = .returned (.int .u8 (sideM n:Nat)) ∧ w' = w:=by
 by_cases h1:n < 3
 ·have e:sideM n = 1:=by unfold sideM;rw [if_pos h1]
  have i1:(n:Int) < 3:=by omega
  rw [e]
  clear e h1
  go_enter Tryz.func76,Tryz.ntmps76
  go_wp2
  go_ret
  exact ⟨rfl,rfl⟩
 by_cases h2:n < 10
 ·have e:sideM n = 0:=by unfold sideM;rw [if_neg h1,if_neg (by omega),if_neg (by omega)]
  have i0:¬ (n:Int) < 3:=by omega
  have i1:¬ (n:Int) ≥ 10:=by omega
  have i2:¬ (n:Int) > 20:=by omega
  rw [e]
  clear e
  clear h1 h2
  go_enter Tryz.func76,Tryz.ntmps76
  go_wp2
  go_ret
  exact ⟨rfl,rfl⟩
 by_cases h3:n < 15
 ·have e:sideM n = 2:=by unfold sideM;rw [if_neg h1,if_pos (by omega)]
  have i0:¬ (n:Int) < 3:=by omega
  have i1:(n:Int) ≥ 10:=by omega
  have i2:(n:Int) < 15:=by omega
  rw [e]
  clear e
  clear h1 h3
  go_enter Tryz.func76,Tryz.ntmps76
  go_wp2
  go_ret
  exact ⟨rfl,rfl⟩
 by_cases h4:n ≤ 20
 ·have e:sideM n = 0:=by unfold sideM;rw [if_neg h1,if_neg (by omega),if_neg (by omega)]
  have i0:¬ (n:Int) < 3:=by omega
  have i1:(n:Int) ≥ 10:=by omega
  have i2:¬ (n:Int) < 15:=by omega
  have i3:¬ (n:Int) > 20:=by omega
  rw [e]
  clear e
  clear h1 h4
  go_enter Tryz.func76,Tryz.ntmps76
  go_wp2
  go_ret
  exact ⟨rfl,rfl⟩
 by_cases h5:n ≤ 23
 ·have e:sideM n = 4:=by unfold sideM;rw [if_neg h1,if_neg (by omega),if_pos (by omega)]
  have i0:¬ (n:Int) < 3:=by omega
  have i1:(n:Int) ≥ 10:=by omega
  have i2:¬ (n:Int) < 15:=by omega
  have i3:(n:Int) > 20:=by omega
  have i4:(n:Int) ≤ 23:=by omega
  rw [e]
  clear e
  clear h1 h5
  go_enter Tryz.func76,Tryz.ntmps76
  go_wp2
  go_ret
  exact ⟨rfl,rfl⟩
 have e:sideM n = 0:=by unfold sideM;rw [if_neg h1,if_neg (by omega),if_neg (by omega)]
 have i0:¬ (n:Int) < 3:=by omega
 have i1:(n:Int) ≥ 10:=by omega
 have i2:¬ (n:Int) < 15:=by omega
 have i3:(n:Int) > 20:=by omega
 have i4:¬ (n:Int) ≤ 23:=by omega
 rw [e]
 clear e
 clear h1 h2 h3 h4 h5
 go_enter Tryz.func76,Tryz.ntmps76
 go_wp2
 go_ret
 exact ⟨rfl,rfl⟩
set_option maxHeartbeats 4000000 in
theorem owns_any (v node:Nat) (m:MsgV) (a1 a2 a3:Option Addr) (c1 c2 c3:Nat) (w:World) (hv:v < 256) (hn:node < 256) (hm:MsgOk m) :
  Calls Tryz.prog 111 #[.int .u8 (v:Nat),.int .u8 (node:Nat),.agg (msgC m a1 c1 a2 c2 a3 c3)] w fun e w'=>e = .returned (.bool (ownsM v node m)) ∧ Below w.heap.size w w':=by
 obtain ⟨w1,hw1,hX,hb⟩:=xbr w 48 (msgC m a1 c1 a2 c2 a3 c3)
 have xs:=hX.mc_src
 have xd:=hX.mc_dst
 by_cases e1:v = 1
 ·subst e1
  obtain ⟨c,hc⟩:∃ c,decide (node = m.src) = c:=⟨_,rfl⟩
  have hM:Hid (ownsM 1 node m = c):=by show ownsM 1 node m = c;rw [← hc];rfl
  have hv1:((node:Int) == (m.src:Int)) = c:=by rw [← hc,Bool.eq_iff_iff];simp;omega
  clear hc
  go_enter Tryz.func111,Tryz.ntmps111
  go_wp2
  go_ret
  exact ⟨by rw [hM.out];try rfl,hb⟩
 ·by_cases e2:v = 2
  ·subst e2
   obtain ⟨c,hc⟩:∃ c,decide (node = m.dst) = c:=⟨_,rfl⟩
   have hM:Hid (ownsM 2 node m = c):=by show ownsM 2 node m = c;rw [← hc];rfl
   have hv1:((node:Int) == (m.dst:Int)) = c:=by rw [← hc,Bool.eq_iff_iff];simp;omega
   clear hc
   go_enter Tryz.func111,Tryz.ntmps111
   go_wp2
   go_ret
   exact ⟨by rw [hM.out];try rfl,hb⟩
  ·obtain ⟨c,hc⟩:∃ c,decide (v = 3) = c:=⟨_,rfl⟩
   have hM:Hid (ownsM v node m = c):=by show ownsM v node m = c;unfold ownsM;rw [if_neg e1,if_neg e2,hc]
   have hv1:((v:Int) == 3) = c:=by rw [← hc,Bool.eq_iff_iff];simp;omega
   have i1:((v:Int) == 1) = false:=by simp;omega
   have i2:((v:Int) == 2) = false:=by simp;omega
   have j1:¬ (v:Int) = 1:=by omega
   have j2:¬ (v:Int) = 2:=by omega
   clear hc e1 e2
   go_enter Tryz.func111,Tryz.ntmps111
   go_wp2
   go_ret
   exact ⟨by rw [hM.out];try rfl,hb⟩
set_option maxHeartbeats 4000000 in
theorem isBallot_any (b:BalV) (w:World) (hb0:BalOk b):Calls Tryz.prog 110 #[.agg (balC b)] w fun e w'=>e = .returned (.bool (isB b)) ∧ Below w.heap.size w w':=by
 obtain ⟨w1,hw1,hX,hb⟩:=xbr w 24 (balC b)
 obtain ⟨x0,x1⟩:=bal_cells hX
 have hM:Hid _:=isB_is b
 by_cases h1:0 < b.n
 ·have i1:(b.n:Int) > 0:=by omega
  by_cases h2:b.who < 3
  ·have hF:Hid (isB b = true):=hM.out.2 ⟨h1,h2⟩
   have i2:(b.who:Int) < 3:=by omega
   go_enter Tryz.func110,Tryz.ntmps110
   go_wp2
   go_ret
   exact ⟨by rw [hF.out];try rfl,hb⟩
  ·have hF:Hid (isB b = false):=by
    cases hq:isB b with
    | false=>rfl
    | true=>exact absurd (hM.out.1 hq).2 h2
   have i2:¬ (b.who:Int) < 3:=by omega
   go_enter Tryz.func110,Tryz.ntmps110
   go_wp2
   go_ret
   exact ⟨by rw [hF.out];try rfl,hb⟩
 ·have hF:Hid (isB b = false):=by
   cases hq:isB b with
   | false=>rfl
   | true=>exact absurd (hM.out.1 hq).1 h1
  have i1:¬ (b.n:Int) > 0:=by omega
  go_enter Tryz.func110,Tryz.ntmps110
  go_wp2
  go_ret
  exact ⟨by rw [hF.out];try rfl,hb⟩
set_option maxHeartbeats 4000000 in
theorem bears_any (d:DiffV) (a2 a3:Option Addr) (c2 c3:Nat) (w:World) (hd:DiffOk d):Calls Tryz.prog 113 #[.agg (diffC d a2 c2 a3 c3)] w fun e w'=>e = .returned (.bool (bearsM d)) ∧ Below w.heap.size w w':=by
 obtain ⟨w1,hw1,hX,hb⟩:=xbr w 46 (diffC d a2 c2 a3 c3)
 have x1:=hX.d_from
 have x2:=hX.d_log
 have hM:Hid (bearsM d = (decide (d.fr ≠ 0) || decide (0 < d.log.length))):=rfl
 have hl:=hd.len
 by_cases h1:d.fr = 0
 ·have i1:((d.fr:Int) != 0) = false:=by rw [h1];rfl
  have hF:Hid (bearsM d = decide (0 < d.log.length)):=by show _ = _;rw [hM.out,h1];rfl
  obtain ⟨c,hc⟩:∃ c,decide (0 < d.log.length) = c:=⟨_,rfl⟩
  have i2:decide ((d.log.length:Int) > 0) = c:=by rw [← hc,Bool.eq_iff_iff];simp
  have i3:decide (0 < (d.log.length:Int)) = c:=i2
  replace hF:Hid (bearsM d = c):=hF.out.trans hc
  replace h1:(d.fr:Int) = 0:=by omega
  by_cases h2:0 < d.log.length
  ·have i4:(0:Int) < (d.log.length:Int):=by omega
   rw [decide_eq_true h2] at hc
   subst hc
   clear i2 i3
   go_enter Tryz.func113,Tryz.ntmps113
   go_wp2
   go_ret
   exact ⟨by rw [hF.out];try rfl,hb⟩
  ·have i4:¬ (0:Int) < (d.log.length:Int):=by omega
   rw [decide_eq_false h2] at hc
   subst hc
   clear i2 i3
   go_enter Tryz.func113,Tryz.ntmps113
   go_wp2
   go_ret
   exact ⟨by rw [hF.out];try rfl,hb⟩
 ·have i1:¬ (d.fr:Int) = 0:=by omega
  have hF:Hid (bearsM d = true):=by show _ = _;rw [hM.out,decide_eq_true h1];rfl
  go_enter Tryz.func113,Tryz.ntmps113
  go_wp2
  go_ret
  exact ⟨by rw [hF.out];try rfl,hb⟩
set_option maxHeartbeats 4000000 in
theorem isEntry_any (e:EntV) (w:World) (he:EntOk e):Calls Tryz.prog 81 #[.agg (entC e)] w fun en w'=>en = .returned (.bool (isEntM e)) ∧ Below w.heap.size w w':=by
 obtain ⟨w1,hw1,hX,hb⟩:=xbr w 41 (entC e)
 have ho:=ent_op_range hX
 have hM:Hid (isEntM e = (xdz e.op && decide (0 < e.n ∧ 1 ≤ e.since ∧ e.since ≤ 60))):=rfl
 go_enter Tryz.func81,Tryz.ntmps81
 go_wp2_with (first
  | (refine xae (by rfl) 39 _ rfl w.heap.size 2 rfl (opL e.op) _ ?hg Tryz.underlying39 rfl (xca _) ?_;(case hg=>exact ho)))
 refine (writes_any e.op _ he.op).mono ?_
 rintro en w2 ⟨rfl,hq⟩
 replace hX:=hX.later hq
 replace hb:=hb.trans (hq.mono hb.size)
 have x0:w2.cell? ⟨w.heap.size,0,none⟩ = some (.int .u32 (e.since:Int)):=hX.cell 0
 have x1:w2.cell? ⟨w.heap.size,1,none⟩ = some (.int .u32 (e.n:Int)):=hX.cell 1
 clear hq ho hw1
 have b1:=he.since
 have b2:=he.n
 cases hc:xdz e.op with
 | false =>
  rw [hc] at hM
  go_wp2
  go_ret
  exact ⟨by rw [hM.out];try rfl,hb⟩
 | true =>
  rw [hc] at hM
  by_cases h1:0 < e.n
  ·have i1:(e.n:Int) > 0:=by omega
   by_cases h2:1 ≤ e.since
   ·have i2:(e.since:Int) ≥ 1:=by omega
    by_cases h3:e.since ≤ 60
    ·have i3:(e.since:Int) ≤ 60:=by omega
     rw [decide_eq_true ⟨h1,h2,h3⟩] at hM
     clear h1 h2 h3
     go_wp2
     go_ret
     exact ⟨by rw [hM.out];try rfl,hb⟩
    ·have i3:¬ (e.since:Int) ≤ 60:=by omega
     have j3:decide ((e.since:Int) ≤ 60) = false:=decide_eq_false i3
     rw [decide_eq_false (fun h=>h3 h.2.2)] at hM
     clear h1 h2 h3
     go_wp2
     go_ret
     exact ⟨by rw [hM.out];try rfl,hb⟩
   ·have i2:¬ (e.since:Int) ≥ 1:=by omega
    rw [decide_eq_false (fun h=>h2 h.2.1)] at hM
    clear h1 h2
    go_wp2
    go_ret
    exact ⟨by rw [hM.out];try rfl,hb⟩
  ·have i1:¬ (e.n:Int) > 0:=by omega
   rw [decide_eq_false (fun h=>h1 h.1)] at hM
   clear h1
   go_wp2
   go_ret
   exact ⟨by rw [hM.out];try rfl,hb⟩
theorem st_built_log (t:EntV) (ao:Option Addr) (c:Nat) (l:List EntV):Tryz.prog.built 44 [(2,.agg (entC t)),(3,.slice ao l.length c)] = some (stC ⟨0,base0,t,l⟩ ao c):=by kernel_rfl
theorem run_pred {P:Program} {o:Oper} {ev:Operand → Value} (ty ty':TypeId) (x y:Operand) (ho:o.op = .binOp .sub ty x y ty') (n k:Nat) (hx:ev x = .int .u32 (n:Int)) (hy:ev y = .int .u32 1) (hn:n < 4294967296) (hk:(n + 4294967295) % 4294967296 = k) (w:World) :
  (execOp ev o).run P w = .ok (.value (.int .u32 (k:Int))) w:=by
 have h4:IntKind.u32.wrap ((n:Int) - 1) = (k:Int):=by
  rw [IntKind.wrap_u32]
  omega
 unfold execOp
 simp only [ho,hx,hy]
 simp only [Sem.run_bind,go_sem,h4]
 simp [go_sem,h4]
set_option maxHeartbeats 4000000 in
theorem wisLog_any (ao:Option Addr) (c:Nat) (l:List EntV) (w:World) (h:Sl w ao c 8 (entR l)) (hl:∀ e ∈ l,EntOk e) (hn:l.length ≤ 1000):Calls Tryz.prog 115 #[.slice ao l.length c] w fun en w'=>en = .returned (.bool (isLgM l)) ∧ Below w.heap.size w w':=by
 cases l with
 | nil =>
  go_enter Tryz.func115,Tryz.ntmps115
  go_wp2
  go_ret
  exact ⟨rfl,Below.refl _ _⟩
 | cons e t =>
  cases ao with
  | none=>have:=h.nil rfl;have:=h.le;simp [entR] at this;omega
  | some ad =>
   have hcap:=h.cap
   have hle:=h.ent_le
   have hx:=ent_at h 0 (by simp) 1 (.int .u32 (e.n:Int)) rfl
   have he:=(hl e (by simp)).n
   have hM:Hid (isLgM (e :: t) = isSt ⟨0,base0,⟨0,(e.n + 4294967295) % 4294967296,op0⟩,e :: t⟩):=rfl
   obtain ⟨k,hk⟩:∃ k,(e.n + 4294967295) % 4294967296 = k:=⟨_,rfl⟩
   rw [hk] at hM
   have hk2:k < 4294967296:=by rw [← hk];exact Nat.mod_lt _ (by decide)
   replace hk:Hid _:=hk
   have hx1:w.cell? ⟨ad.block,ad.off + 1,none⟩ = some (.int .u32 (e.n:Int)):=by
    have ea:((ad.add (0 * 8)).add 1) = ⟨ad.block,ad.off + 1,none⟩:=by unfold Addr.add;simp
    rw [← ea]
    exact hx
   have hst:StOk ⟨0,base0,⟨0,k,op0⟩,e :: t⟩:=⟨by show 0 < _;decide,base0_ok.in',⟨by show 0 < _;decide,hk2,op0_ok⟩,hl,hn⟩
   have hlen0:¬ ((e :: t).length:Int) = 0:=by rw [List.length_cons];first | omega | (simp;omega)
   have hlenB:(((e :: t).length:Int) == 0) = false:=by rw [beq_eq_false_iff_ne];exact hlen0
   have hpos:(0:Int) < ((e :: t).length:Int):=by rw [List.length_cons];first | omega | (simp;omega)
   have hposN:0 < (e :: t).length:=by simp
   obtain ⟨L,hL⟩:∃ L,(e :: t).length = L:=⟨_,rfl⟩
   obtain ⟨l,hl2⟩:∃ l,e :: t = l:=⟨_,rfl⟩
   have hLl:l.length = L:=by rw [← hl2];exact hL
   rw [hl2] at hM hst h hL hlen0 hlenB hpos hposN hn hle ⊢
   rw [hLl] at hlen0 hlenB hpos hposN hn hle
   have hbs:=st_built_log ⟨0,k,op0⟩ (some ad) c l
   rw [hLl] at hbs ⊢
   clear hl2 hL hx hl
   replace hLl:Hid _:=hLl
   replace he:Hid _:=he
   clear hk2
   go_enter Tryz.func115,Tryz.ntmps115
   go_upto_region 3 with fail
   refine wp_region_list ?_
   show wpList Tryz.prog _ _ [_,_,_,_,_,_,_,_,_,_] _ _
   iterate 4
    refine xaf _ (.inl ⟨by rfl,fun W hS=>by subst hS;go_simp;try with_reducible rfl⟩) ?_
    try simp only [qp,qa,qb,qc]
   refine xaf (.int .u32 (k:Int)) (.inl ⟨by rfl,fun W _=>run_pred _ _ _ _ rfl e.n k rfl rfl he.out hk.out W⟩) ?_
   try simp only [qp,qa,qb,qc]
   refine xaf _ (xat (by rfl) 41 _ rfl [(1,.int .u32 (k:Int))] rfl (entC ⟨0,k,op0⟩) (ent_built_n k)) ?_
   try simp only [qp,qa,qb,qc]
   refine xaf _ (.inl ⟨by rfl,fun W hS=>by subst hS;go_simp;try with_reducible rfl⟩) ?_
   try simp only [qp,qa,qb,qc]
   refine xaf _ (xat (by rfl) 44 _ rfl [(2,.agg (entC ⟨0,k,op0⟩)),(3,.slice (some ad) L c)] rfl (stC ⟨0,base0,⟨0,k,op0⟩,l⟩ (some ad) c) hbs) ?_
   try simp only [qp,qa,qb,qc]
   refine xer (by rfl) (fun K hK=>?_)
   go_simp
   refine (is_any7 ⟨0,base0,⟨0,k,op0⟩,l⟩ (some ad) c _ hst h).mono ?_
   rintro en w2 ⟨rfl,hq⟩
   refine hK.out _ _ ?_
   clear hK K
   try simp only [qp,qa,qb,qc]
   refine xaf _ (.inl ⟨by rfl,fun W hS=>by subst hS;go_simp;try with_reducible rfl⟩) ?_
   try simp only [qp,qa,qb,qc]
   refine wpList_nil ?_
   go_wp2
   go_ret
   exact ⟨by rw [hM.out];try rfl,hq⟩
set_option maxHeartbeats 4000000 in
theorem isEnds_any (s:StV) (ao:Option Addr) (c:Nat) (w:World) (hs:StOk s) (h:Sl w ao c 8 (entR s.log)):Calls Tryz.prog 114 #[.agg (stC s ao c)] w fun en w'=>en = .returned (.bool (xfr s)) ∧ Below w.heap.size w w':=by
 obtain ⟨w1,hw1,hX,hb⟩:=xbr w 44 (stC s ao c)
 have hM:Hid (xfr s = (isSt s && same tSt s (endsM s))):=rfl
 go_enter Tryz.func114,Tryz.ntmps114
 go_wp2_with (first
  | ((with_reducible refine at_loa ?_);(with_reducible refine at_g0 ?_);refine xab (by rfl) 44 _ rfl w.heap.size rfl 44 (stC s ao c) _ Tryz.underlying44 rfl (xcg _ _ _) ?hg ?_;(case hg=>exact hX)))
 refine (is_any7 s ao c _ hs (h.later hb)).mono ?_
 rintro en w2 ⟨rfl,hq⟩
 replace hX:=hX.later hq
 replace hb:=hb.trans (hq.mono hb.size)
 have x0:=hX.st_started
 have xt:=hX.st_tail
 clear hq hw1
 cases hc:isSt s with
 | false =>
  rw [hc] at hM
  go_wp2
  go_ret
  exact ⟨by rw [hM.out];try rfl,hb⟩
 | true =>
  rw [hc] at hM
  go_wp2_with (first
   | ((with_reducible refine at_loa ?_);refine xab (by rfl) 44 _ rfl w.heap.size rfl 44 (stC s ao c) _ Tryz.underlying44 rfl (xcg _ _ _) ?hg ?_;(case hg=>exact hX))
   | ((with_reducible refine at_loa ?_);refine xae (by rfl) 41 _ rfl w.heap.size 40 rfl (entL s.tail) _ ?hg Tryz.underlying41 rfl (xax _) ?_;(case hg=>exact xt))
   | ((with_reducible refine at_bld ?_);refine xed (by rfl) 44 0 2 _ _ rfl _ _ rfl rfl (stC (endsM s) none 0) (st_built_ends s.started s.tail) ?_))
  refine (same_any s (endsM s) ao none c 0 _ hs (ends_fit hs) (h.later hb) (Sl.nothing _ 8)).mono ?_
  rintro en w3 ⟨rfl,hq⟩
  replace hb:=hb.trans (hq.mono hb.size)
  clear hq
  go_wp2
  go_ret
  exact ⟨by rw [hM.out];try rfl,hb⟩
end Go.Proofs.YtecilienolabfaaGreatDoor
