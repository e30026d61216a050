/- PendKeys, DiskCr, joined. -/
import Derived.Test.YtpnpjblohijajabGreatGrp6
import Derived.Test.YtpnpjblohijajabGreatShelfSort
import Derived.Test.YtpnpjblohijajabGreatGrp7
namespace Go.Proofs.YtpnpjblohijajabGreat
section
set_option linter.unusedSimpArgs false
set_option linter.unusedVariables false
set_option maxRecDepth 100000
open Go.RowKit Go.MapKept Go.Maps Go.Sort Go.Shelf

def anyR (_ : Value) : Option (DataW Nat × List MemPlace) := some (.nil, [])
theorem key_int (x : Nat) (hx : x < 1000) : keyOf Tryz.prog 3 (.int .i64 (x : Int)) = some (.int .i64 (x : Int)) := by
  have hw : (Lit.int .i64 (x : Int)).wf = true := by
    have h1 : IntKind.i64.min = -9223372036854775808 := by decide
    have h2 : IntKind.i64.max = 9223372036854775807 := by decide
    show (decide (IntKind.i64.min ≤ (x : Int)) && decide ((x : Int) ≤ IntKind.i64.max)) = true
    rw [h1, h2, Bool.and_eq_true, decide_eq_true_eq, decide_eq_true_eq]
    omega
  simp [keyOf, Tryz.underlying3, mapKey, hw]
theorem rg_entS (x : Nat × List UInt8) (b : Nat) (hx : x.1 < 1000) : Go.WideElems.rd Tryz.prog 3 anyR (entS x b) = some (.int .i64 (x.1 : Int), .nil) := by
  unfold Go.WideElems.rd entS
  rw [key_int x.1 hx]
  rfl
theorem keys_rowS : ∀ (c : Nat) (l : PendL), (rowS c l).map (·.key) = l.map (fun x => Value.int .i64 (x.1 : Int))
  | c, [] => rfl
  | c, x :: l => by rw [rowS, List.map_cons, keys_rowS (c + 1) l, List.map_cons]; rfl
theorem ints_rowS : ∀ (c : Nat) (l : PendL), (∀ x ∈ l, x.1 < 1000) → ((rowS c l).map (Go.WideElems.rg Tryz.prog 3 anyR)).map (fun p : Lit × DataW Nat => Go.intOf p.1) = l.map (fun x => (x.1 : Int))
  | c, [], _ => rfl
  | c, x :: l, h => by
    rw [rowS, List.map_cons, List.map_cons, ints_rowS (c + 1) l (fun y hy => h y (List.mem_cons_of_mem _ hy)), List.map_cons]
    congr 1
    unfold Go.WideElems.rg
    rw [rg_entS x c (h x List.mem_cons_self)]
    rfl
theorem owns_pend {w : World} {b : Nat} {l : PendL} (h : PendAt w b l) (hk : ∀ x ∈ l, x.1 < 1000) (hn : (l.map (·.1)).Nodup) (hl : l.length ≤ 1000) : ∃ D : DataW Nat, w.ownsMap Tryz.prog 3 anyR b l.length D ∧ Maps.size D = l.length ∧ ∀ ss : List Int, ss.Perm (intKeys D) → ss.Perm (l.map (fun x => (x.1 : Int))) := by
  obtain ⟨c, h⟩ := h
  refine ⟨.map (((rowS c l).map (Go.WideElems.rg Tryz.prog 3 anyR)).foldr DataW.insert []), ⟨_, _, h, ⟨?_, ⟨rowS_born c l, rowS_nodup c l, ?_⟩, ?_⟩, ?_, ?_⟩, ?_, ?_⟩
  · rw [List.size_toArray, rowS_len]; unfold maxLen; omega
  · show ((rowS c l).map (·.key)).Nodup
    rw [keys_rowS]
    have : l.map (fun x => Value.int .i64 (x.1 : Int)) = (l.map (·.1)).map (fun n : Nat => Value.int .i64 (n : Int)) := by rw [List.map_map]; rfl
    rw [this]
    refine List.Pairwise.map _ (fun a b hab => ?_) hn
    intro z
    injection z with _ z
    exact hab (by omega)
  · intro x hx
    obtain ⟨j, y, hj, rfl⟩ := (mem_rowS c l x).1 (by simpa using hx)
    exact ⟨_, rg_entS y _ (hk y (List.mem_of_getElem? hj))⟩
  · rw [List.size_toArray, rowS_len]
    exact Nat.le_refl _
  · rfl
  · show (List.foldr DataW.insert [] ((rowS c l).map (Go.WideElems.rg Tryz.prog 3 anyR))).length = _
    rw [(Go.WideShapes.sorted_perm _).length_eq, List.length_map, rowS_len]
  · intro ss hp
    refine hp.trans ?_
    show (List.map (fun p : Lit × DataW Nat => Go.intOf p.1) _).Perm _
    rw [← ints_rowS c l hk]
    exact (Go.WideShapes.sorted_perm _).map _
theorem sorts_j (m : Nat) : AnyZI.SortsIn Tryz.prog sortedA_ren Fence.wide m :=
  ⟨fun blk off cap ss W hH hblk hsz => callsIn_wide.2 (AnyM.slices_Sort_int sortA blk off cap ss W hH hblk hsz),
   fun p cap W => callsIn_wide.2 (AnyM.slices_Sort_int_none sortA p cap W)⟩
theorem keys_call (mb : Nat) (w : World) : Calls Tryz.prog 24 #[.map (some mb)] w fun e w' => e = .returned (.func (.func 48) #[] #[.pointer (some ⟨w.heap.size, 0, none⟩)]) ∧ w' = w.alloc (.cells #[.map (some mb)] 45) :=
  (callsIn_wide (n := 5)).1 (AnyZI.keys_in keysA Fence.wide 5 trivial rfl (some mb) w)
theorem sorted_call (mb : Nat) (l : PendL) (w : World) (h : PendAt w mb l) (hk : ∀ x ∈ l, x.1 < 1000) (hn : (l.map (·.1)).Nodup) (hl : l.length ≤ 1000) :
    Calls Tryz.prog 23 #[.func (.func 48) #[] #[.pointer (some ⟨w.heap.size, 0, none⟩)]] (w.alloc (.cells #[.map (some mb)] 45)) fun e w' => ∃ (v : Value) (ss : List Int), e = .returned v ∧ ss.Perm (l.map (fun x => (x.1 : Int))) ∧
      w'.ownsRow (w.heap.size + 1) 3 1 v ss.length ((ss.mergeSort (fun x y => decide (x ≤ y))).map encZ) ∧ Below (w.heap.size + 1) (w.alloc (.cells #[.map (some mb)] 45)) w' := by
  have hlt := h.lt
  obtain ⟨D, hown, hsize, hperm⟩ := owns_pend h hk hn hl
  have hseq : SeqGives Fence.wide 2 Tryz.prog 48 #[.pointer (some ⟨w.heap.size, 0, none⟩)] encZ (fun ss => ss.Perm (intKeys D)) (Maps.size D) (w.alloc (.cells #[.map (some mb)] 45)) :=
    AnyZI.keys_gives (ρ := keysA_ren) { keysA with } Fence.wide _ trivial rfl (by omega) w.heap.size mb l.length D _ (by simp) (by simp) (by
      obtain ⟨es, clock, hb, Ft, hs, hD⟩ := hown
      exact ⟨es, clock, (Below.heap_alloc _ _ mb hlt).trans hb, Ft, hs, hD⟩)
  have cS := AnyZI.sorted_in sortedA Fence.wide 5 trivial trivial trivial trivial rfl (by omega) (sorts_j _) (enters_of Tryz.func47 (by kernel_rfl) rfl) 48 #[.pointer (some ⟨w.heap.size, 0, none⟩)] trivial (enters_of Tryz.func48 (by kernel_rfl) rfl) _ _ (by rw [hsize]; unfold maxLen; omega) (by rw [hsize]; omega) _ hseq
  change CallsIn _ _ Tryz.prog 23 _ _ _ at cS
  refine ((callsIn_wide (n := 5)).1 cS).mono ?_
  rintro e w' ⟨v, ss, rfl, hS, hrow, hnil, hb⟩
  have hsz : (w.alloc (.cells #[.map (some mb)] 45)).heap.size = w.heap.size + 1 := by simp
  rw [hsz] at hrow hb
  exact ⟨v, ss, rfl, hperm ss hS, hrow, hb⟩
end

section
set_option linter.unusedSimpArgs false
set_option linter.unusedVariables false
set_option maxRecDepth 100000
open Go.RowKit Go.MapKept

def choiceM (cs : List UInt8) (n : Nat) : Nat := (cs[n]?.getD 0).toNat
def survM (c : Nat) : Nat := if c = 255 then 64 else c % 64
theorem survM_le (c : Nat) : survM c ≤ 64 := by unfold survM; split <;> omega
theorem choiceM_lt (cs : List UInt8) (n : Nat) : choiceM cs n < 256 := UInt8.toNat_lt _
theorem choice_any (ao : Option Addr) (k c n : Nat) (cs : List UInt8) (w : World) (h : By w ao c cs) (hk : k = cs.length) : Calls Tryz.prog 26 #[.slice ao k c, .int .i64 (n : Nat)] w fun e w' => e = .returned (.int .u8 (choiceM cs n : Nat)) ∧ w' = w := by
  subst hk
  have hle := h.le
  have hcap := h.cap
  by_cases hn : n < cs.length
  · cases ao with
    | none => have := h.nil rfl; omega
    | some ad =>
      have hc := h.cell n (by omega)
      have hnI : (n : Int) < (cs.length : Int) := by omega
      have hM : Hid (choiceM cs n = (cs[n]'(by omega)).toNat) := by
        show _ = _
        unfold choiceM
        rw [List.getElem?_eq_getElem (by omega)]
        rfl
      go_enter Tryz.func26, Tryz.ntmps26
      go_wp2
      go_ret
      exact ⟨by rw [hM.out]; rfl, rfl⟩
  · have hnI : ¬ (n : Int) < (cs.length : Int) := by omega
    have hM : Hid (choiceM cs n = 0) := by
      show _ = _
      unfold choiceM
      rw [List.getElem?_eq_none (by omega)]
      rfl
    go_enter Tryz.func26, Tryz.ntmps26
    go_wp2
    go_ret
    exact ⟨by rw [hM.out]; rfl, rfl⟩
theorem survives_any (c : Nat) (w : World) (hc : c < 256) : Calls Tryz.prog 25 #[.int .u8 (c : Nat)] w fun e w' => e = .returned (.int .i64 (survM c : Nat)) ∧ w' = w := by
  by_cases h : c = 255
  · subst h
    go_enter Tryz.func25, Tryz.ntmps25
    go_wp2
    go_ret
    exact ⟨rfl, rfl⟩
  · have hI : ¬ (c : Int) = 255 := by omega
    have hB : ((c : Int) == 255) = false := by rw [beq_eq_false_iff_ne]; exact hI
    have hM : Hid (survM c = c % 64) := by show _ = _; unfold survM; rw [if_neg h]
    have hw : IntKind.i64.wrap (c : Int) = (c : Int) := by rw [IntKind.wrap_i64]; omega
    have hm : Int.tmod (c : Int) 64 = ((c % 64 : Nat) : Int) := by
      rw [Int.tmod_eq_emod_of_nonneg (by omega)]
      omega
    clear h
    go_enter Tryz.func25, Tryz.ntmps25
    go_wp2
    go_ret
    exact ⟨by rw [hM.out]; try rfl, rfl⟩
theorem sec_part_at {D ys : List UInt8} {n i j : Nat} (hD : D.length = 64 * n) (hy : ys.length ≤ 64) (hi : i < n) (hj : j < n) : sec (overB D (i * 64) ys) j = if j = i then ys ++ (sec D i).drop ys.length else sec D j := by
  have hl : (overB D (i * 64) ys).length = 64 * n := by rw [overB_length _ _ _ (by omega)]; exact hD
  refine List.ext_getElem? fun q => ?_
  have h1 : (D.take (i * 64)).length = i * 64 := by rw [List.length_take]; omega
  by_cases hq : q < 64
  · rw [sec_at _ _ _ hq]
    unfold overB
    by_cases hji : j = i
    · subst hji
      rw [if_pos rfl]
      by_cases hlt : q < ys.length
      · rw [List.append_assoc, List.getElem?_append_right (by omega), h1, List.getElem?_append_left (by omega), List.getElem?_append_left hlt]
        congr 1
        omega
      · rw [List.getElem?_append_right (by rw [List.length_append]; omega), List.length_append, h1, List.getElem?_drop, List.getElem?_append_right (by omega), List.getElem?_drop, sec_at _ _ _ (by omega)]
        congr 1
        omega
    · rw [if_neg hji, sec_at _ _ _ hq]
      by_cases hlt : j < i
      · rw [List.append_assoc, List.getElem?_append_left (by omega), List.getElem?_take, if_pos (by omega)]
      · rw [List.getElem?_append_right (by rw [List.length_append]; omega), List.length_append, h1, List.getElem?_drop]
        congr 1
        omega
  · have e1 := sec_length hl hj
    rw [List.getElem?_eq_none (by omega)]
    split
    · rename_i hji
      have e2 := sec_length hD hi
      rw [List.getElem?_eq_none (by rw [List.length_append, List.length_drop]; omega)]
    · have e2 := sec_length hD hj
      rw [List.getElem?_eq_none (by omega)]
/-- Some of the pending sectors are torn. -/
structure TornTo (n : Nat) (D : List UInt8) (l : PendL) (K : List Int) (E : List UInt8) : Prop where
  len : E.length = 64 * n
  same : ∀ i, i < n → (i : Int) ∉ K → sec E i = sec D i
  tear : ∀ i s, (i, s) ∈ l → (i : Int) ∈ K → ∃ k, k ≤ 64 ∧ sec E i = s.take k ++ (sec D i).drop k
theorem TornTo.start {n : Nat} {D : List UInt8} {l : PendL} (h : D.length = 64 * n) : TornTo n D l [] D := ⟨h, fun _ _ _ => rfl, fun i s _ hm => by cases hm⟩
theorem pend_one {l : PendL} (hap : (l.map (·.1)).Nodup) {i : Nat} {s t : List UInt8} (h1 : (i, s) ∈ l) (h2 : (i, t) ∈ l) : s = t := by
  obtain ⟨a, ha⟩ := List.mem_iff_getElem?.1 h1
  obtain ⟨b, hb⟩ := List.mem_iff_getElem?.1 h2
  have e1 : (l.map (·.1))[a]? = some i := by rw [List.getElem?_map, ha]; rfl
  have e2 : (l.map (·.1))[b]? = some i := by rw [List.getElem?_map, hb]; rfl
  have hal : a < (l.map (·.1)).length := (List.getElem?_eq_some_iff.1 e1).1
  have := (List.getElem?_inj hal hap).1 (e1.trans e2.symm)
  subst this
  rw [ha] at hb
  injection hb with hb
  injection hb
theorem TornTo.next {n : Nat} {D E : List UInt8} {l : PendL} {K : List Int} {i m : Nat} {s : List UInt8} (h : TornTo n D l K E) (hi : i < n) (hs : (i, s) ∈ l) (hsl : s.length = 64) (hm : m ≤ 64) (hn : (i : Int) ∉ K) (hap : (l.map (·.1)).Nodup) (hin : ∀ x ∈ l, x.1 < n) : TornTo n D l (K ++ [(i : Int)]) (overB E (i * 64) (s.take m)) := by
  have hy : (s.take m).length = m := by rw [List.length_take]; omega
  refine ⟨by rw [overB_length _ _ _ (by have := h.len; omega)]; exact h.len, fun j hj hnj => ?_, fun j t hjt hK => ?_⟩
  · rw [sec_part_at h.len (by omega) hi hj, if_neg (fun z => hnj (by rw [z]; simp))]
    exact h.same j hj (fun z => hnj (List.mem_append.2 (.inl z)))
  · have hjn := hin _ hjt
    rw [sec_part_at h.len (by omega) hi hjn]
    by_cases hji : j = i
    · subst hji
      obtain rfl := pend_one hap hs hjt
      rw [if_pos rfl, hy, h.same j hi hn]
      exact ⟨m, hm, rfl⟩
    · rw [if_neg hji]
      rcases List.mem_append.1 hK with hK | hK
      · exact h.tear j t hjt hK
      · rw [List.mem_singleton] at hK
        exact absurd (by omega) hji
theorem TornTo.done {n : Nat} {D E : List UInt8} {l : PendL} {K : List Int} (h : TornTo n D l K E) (hK : ∀ i : Nat, (i : Int) ∈ K ↔ ∃ s, (i, s) ∈ l) : Torn n D l E :=
  ⟨h.len, fun i hi hno => h.same i hi fun z => by obtain ⟨s, hs⟩ := (hK i).1 z; exact hno s hs, fun i s hs => h.tear i s hs ((hK i).2 ⟨s, hs⟩)⟩
theorem run_lookP1 {w : World} {b : Nat} {l : PendL} (h : PendAt w b l) (i : Nat) (s : List UInt8) (hf : findP l i = some s) :
    (Instr.lookup 45 (.map (some b)) (.int .i64 (i : Int)) false).run Tryz.prog w = .ok (.agg (secC s)) w := by
  obtain ⟨c, h⟩ := h
  have hfn := run_findKey (P := Tryz.prog) (w := w) (kt := 3) Tryz.underlying3 (find_rowS l c i 0)
  have hpf := place_find l i 0
  rw [hf] at hpf
  cases hp : placeP l i 0 with
  | none => rw [hp] at hpf; cases hpf
  | some q =>
    rw [hp] at hfn hpf
    have hqs : q.2 = .agg (secC s) := by simpa using hpf
    obtain ⟨q1, q2⟩ := q
    replace hqs : q2 = .agg (secC s) := hqs
    subst hqs
    simp [Instr.lookup, Sem.run_bind, run_underlying Tryz.underlying45, Go.MapKept.run_getObj_map h, run_checkKey Tryz.underlying3 (key_i64 _), hfn, Result.andThen]
theorem find_mem {l : PendL} (hap : (l.map (·.1)).Nodup) {i : Nat} {s : List UInt8} (h : (i, s) ∈ l) : findP l i = some s := by
  unfold findP
  cases hf : l.find? (fun x => x.1 == i) with
  | none =>
    rw [List.find?_eq_none] at hf
    have := hf _ h
    simp at this
  | some x =>
    have h1 := List.mem_of_find?_eq_some hf
    have h2 := List.find?_some hf
    obtain ⟨a, b⟩ := x
    have h2 : a = i := by simpa using h2
    subst h2
    rw [Option.map_some, pend_one hap h h1]
theorem plan_copyB {ops : Array Oper} {a : Act} {w : World} {Q : Exit → Act → World → Prop} {S : World → Prop} {j : Nat} {p : Plan} (o : Oper) (hnth : nth ops.toList j = some o) (hwt : Region.wanted o (yielded ops a.tmps) = true) (d s : Operand)
    (ho : o.op = .call { callee := .builtin .copy, args := #[d, s], argTypes := #[60, 60] }) (t : TypeId) (g off dLen dCap : Nat) (sp : Option Addr) (k sCap m : Nat) (old xs : List UInt8)
    (hdv : a.eval d = .slice (some ⟨g, off, none⟩) dLen dCap) (hsv : a.eval s = .slice sp k sCap) (h : By w sp sCap xs) (hk : k = xs.length) (hg : Has w g t (Bs old).toArray) (hm : min k dLen = m) (hfit : off + m ≤ old.length)
    (W : World) (hW : w.setRow g (Bs (overB old off (xs.take m))).toArray = W) (hS : S W) (hK : wpPlan Tryz.prog ops Q S p (a.put o.dst (.int .i64 (m : Int))) W) : wpPlan Tryz.prog ops Q S (Plan.run j p) a w := by
  refine plan_run o hnth fun K hK' => ?_
  have hr := run_copyB w o.type t g off dLen dCap sp k sCap m old xs h hk hg hm hfit
  rw [if_pos hwt]
  unfold Oper.wp
  simp [execOp, ho, resolve, invoke, builtin, hdv, hsv, hr, Result.andThen]
  rw [hW]
  exact hK'.out _ _ hS hK
/-- A row of integers that is read. -/
structure Ints (w : World) (a : Option Addr) (c : Nat) (K : List Int) (B : Nat) : Prop where
  le : K.length ≤ c
  cap : c ≤ 9223372036854775807
  cell : ∀ q (h : q < K.length), ∃ g, a = some ⟨g, 0, none⟩ ∧ B ≤ g ∧ g < w.heap.size ∧ w.cell? ⟨g, q, none⟩ = some (.int .i64 (K[q]))
theorem Ints.same {w w' : World} {a : Option Addr} {c B : Nat} {K : List Int} (h : Ints w a c K B) (hs : w.heap.size ≤ w'.heap.size) (k : ∀ g, B ≤ g → g < w.heap.size → w'.heap[g]? = w.heap[g]?) : Ints w' a c K B := by
  refine ⟨h.le, h.cap, fun q hq => ?_⟩
  obtain ⟨g, h1, h2, h3, h4⟩ := h.cell q hq
  refine ⟨g, h1, h2, Nat.lt_of_lt_of_le h3 hs, ?_⟩
  rw [World.cell?_of_block (w := w) (k g h2 h3)]
  exact h4
theorem ints_of {w : World} {B n : Nat} {v : Value} {K : List Int} (hn : n = K.length) (h : w.ownsRow B 3 1 v n (K.map (fun x : Int => Value.int .i64 x))) (hl : K.length ≤ 1000) : ∃ a c, v = .slice a n c ∧ Ints w a c K B := by
  rcases h.2 with ⟨hv, hk⟩ | ⟨g, cap, cur, hv, hg, hc, hle, hm, hs, hx⟩
  · subst hv hk
    have : K = [] := List.eq_nil_of_length_eq_zero hn.symm
    subst this
    exact ⟨none, 0, rfl, Nat.le_refl _, Nat.zero_le _, fun q hq => by cases hq⟩
  · refine ⟨some ⟨g, 0, none⟩, cap, hv, by omega, ?_, fun q hq => ⟨g, rfl, hg, (Array.getElem?_eq_some_iff.1 hc).1, ?_⟩⟩
    · unfold maxLen at hm
      exact hm
    · have hcell : w.cell? ⟨g, q, none⟩ = cur[q]? := by
        unfold World.cell?
        rw [hc]
        rfl
      rw [hcell]
      have h2 : (cur.toList.take (n * 1))[q]? = (K.map (fun x : Int => Value.int .i64 x))[q]? := by rw [hx]
      rw [List.getElem?_take, if_pos (by omega), Array.getElem?_toList, List.getElem?_map, List.getElem?_eq_getElem hq] at h2
      exact h2
theorem By.sameN {a b : World} {ao : Option Addr} {c : Nat} {xs : List UInt8} (h : By a ao c xs) (k : xs ≠ [] → ∀ ad, ao = some ad → b.heap[ad.block]? = a.heap[ad.block]?) : By b ao c xs := by
  by_cases hx : xs = []
  · subst hx
    exact ⟨h.le, h.cap, h.nil, fun ad had j u hu => by simp [Bs] at hu⟩
  · exact h.same (k hx)
set_option maxHeartbeats 4000000 in
theorem dcrash_ne (p kb mb n : Nat) (d : DskV) (ao : Option Addr) (k c : Nat) (cs : List UInt8) (w : World) (h : DiskAt w p kb mb n d) (hB : By w ao c cs) (hk : k = cs.length) (hpl : d.pend.length ≤ 1000) (hlt : ∀ ad, ao = some ad → cs ≠ [] → ad.block < w.heap.size ∧ ¬ DF p kb mb ad.block) :
    Calls Tryz.prog 10 #[.pointer (some ⟨p, 0, none⟩), .slice ao k c] w fun e w' => e = .returned (.tuple #[]) ∧ ∃ E, Torn n d.dat d.pend E ∧ DiskAt w' p kb mb n ⟨E, [], 0, false⟩ ∧ OffF (DF p kb mb) w w' := by
  obtain ⟨st, hX⟩ := h.disk
  have hlen := h.len
  have hap := h.apart
  have hse := h.sect
  have hn0 := h.n0
  have hn1 := h.n1
  have hpk := h.pk
  have hpm := h.pm
  have hkm := h.km
  have f3 := hX.free 3
  have f4 := hX.free 4
  have c4 : w.cell? ⟨p, 4, none⟩ = some (.bool d.off) := (hX.cell 4).trans rfl
  have c3 : (w.setCell ⟨p, 4, none⟩ (.bool false)).cell? ⟨p, 3, none⟩ = some (.int .i64 (d.left : Int)) := ((hX.set 4 (.bool false)).cell 3).trans rfl
  have hX1 := (hX.set 4 (.bool false)).set 3 (.int .i64 ((0 : Nat) : Int))
  rw [diskC_4, diskC_3] at hX1
  have hb1 : But p w ((w.setCell ⟨p, 4, none⟩ (.bool false)).setCell ⟨p, 3, none⟩ (.int .i64 ((0 : Nat) : Int))) := (but_cell w 4 _).trans (but_cell _ 3 _)
  have h1 := h.but hb1 0 false (Nat.zero_le _) st hX1
  obtain ⟨w1, hw1⟩ : ∃ W, (w.setCell ⟨p, 4, none⟩ (.bool false)).setCell ⟨p, 3, none⟩ (.int .i64 0) = W := ⟨_, rfl⟩
  replace hX1 : Has w1 p 47 (diskC kb mb n st 0 false) := by rw [← hw1]; exact hX1
  replace hb1 : But p w w1 := by rw [← hw1]; exact hb1
  replace h1 : DiskAt w1 p kb mb n ⟨d.dat, d.pend, 0, false⟩ := by rw [← hw1]; exact h1
  have hB1 : By w1 ao c cs := hB.sameN (fun hne ad had => hb1.block _ (hlt ad had hne).1 (fun z => (hlt ad had hne).2 (.inl z)))
  have hk1 := keys_call mb w1
  have hk2 := sorted_call mb d.pend w1 h1.pend (fun x hx => by have := (hse x hx).1; omega) hap hpl
  have c1 : w1.cell? ⟨p, 1, none⟩ = some (.map (some mb)) := (hX1.cell 1).trans rfl
  have o1 : Hid (OffF (DF p kb mb) w w1) := (OffF.but hb1).more (fun k hk => .inl hk)
  have hlt1 : Hid (∀ ad, ao = some ad → cs ≠ [] → ad.block < w1.heap.size ∧ ¬ DF p kb mb ad.block) := fun ad had hne => ⟨Nat.lt_of_lt_of_le (hlt ad had hne).1 hb1.size, (hlt ad had hne).2⟩
  replace hk1 : Hid _ := hk1
  replace hk2 : Hid _ := hk2
  have hP := h1.pend
  have hdd := h1.dat
  replace hse : Hid _ := hse
  replace hk : Hid _ := hk
  have hf3' : (w.setCell ⟨p, 4, none⟩ (.bool false)).frozen? ⟨p, 3, none⟩ = false := (hX.set 4 (.bool false)).free 3
  have hsw : w.heap.size ≤ w1.heap.size := hb1.size
  have hlP := hX1.lt
  have hlK := hdd.lt
  have hlM := hP.lt
  clear h hX hB h1 hb1 hlt f3
  go_enter Tryz.func10, Tryz.ntmps10
  go_wp2_with fail
  refine Calls.mono hk1.out ?_
  rintro e w2 ⟨rfl, rfl⟩
  clear hk1
  have hq2 : Below w1.heap.size w1 (w1.alloc (.cells #[.map (some mb)] 45)) := (Below.refl _ _).alloc (Nat.le_refl _) _
  go_wp2_with fail
  refine Calls.mono hk2.out ?_
  rintro e w3 ⟨v, ss, rfl, hperm, hrow, hq3⟩
  clear hk2
  have hq : Below w1.heap.size w1 w3 := hq2.trans (hq3.mono (Nat.le_succ _))
  obtain ⟨K, hK⟩ : ∃ K, ss.mergeSort (fun x y => decide (x ≤ y)) = K := ⟨_, rfl⟩
  have hKp : K.Perm (d.pend.map (fun x => (x.1 : Int))) := by rw [← hK]; exact (List.mergeSort_perm _ _).trans hperm
  have hKl : ss.length = K.length := by rw [← hK, List.length_mergeSort]
  have hKn : K.length ≤ 1000 := by rw [hKp.length_eq, List.length_map]; exact hpl
  have hKd : K.Nodup := by
    refine hKp.nodup_iff.2 ?_
    have e : d.pend.map (fun x => (x.1 : Int)) = (d.pend.map (·.1)).map (fun n : Nat => (n : Int)) := by rw [List.map_map]; rfl
    rw [e]
    exact List.Pairwise.map _ (fun a b hab z => hab (by omega)) hap
  have hKm : ∀ x : Int, x ∈ K ↔ ∃ y ∈ d.pend, (y.1 : Int) = x := fun x => by rw [hKp.mem_iff, List.mem_map]
  rw [hK] at hrow
  obtain ⟨a2, c2, rfl, hI⟩ := ints_of hKl hrow hKn
  rw [hKl]
  replace hX1 := hX1.later hq
  replace hdd := hdd.later hq
  replace hP := hP.later hq
  replace hB1 := hB1.later hq
  replace o1 : Hid (OffF (DF p kb mb) w w3) := o1.out.trans (OffF.of hq)
  have hsz3 : w1.heap.size < w3.heap.size := Nat.lt_of_lt_of_le (by simp) hq3.size
  have hle2 := hI.le
  have hcap2 := hI.cap
  obtain ⟨L, hL⟩ : ∃ L, K.length = L := ⟨_, rfl⟩
  rw [hL] at hle2 ⊢
  have hKd' : Hid _ := hKd
  have hKm' : Hid _ := hKm
  replace hL : Hid _ := hL
  clear hK hKl hKn hKd hKm hperm hrow hq hq2 hq3 c1 c3 c4 f4 hf3' hw1 hKp
  go_wp2_with fail
  go_loopw [20] (fun iv wr => ∃ q E, q ≤ L ∧ iv = .int .i64 (q : Nat) ∧ TornTo n d.dat d.pend (K.take q) E ∧ Has wr kb 66 (Bs E).toArray ∧ Has wr p 47 (diskC kb mb n st 0 false) ∧ PendAt wr mb d.pend ∧ Ints wr a2 c2 K (w1.heap.size + 1) ∧ By wr ao c cs ∧ w1.heap.size < wr.heap.size ∧ Hid (OffF (DF p kb mb) w wr)) (fun iv _ => L - (intOf iv).toNat)
  case atStart => exact ⟨0, d.dat, Nat.zero_le _, rfl, TornTo.start hlen, hdd, hX1, hP, hI, hB1, hsz3, o1⟩
  case round =>
    clear hdd hX1 hP hI hB1 o1 hsz3
    obtain ⟨q, E, hqL, rfl, hT, hdd, hX, hP, hI, hB, hsz, o1⟩ := hrel
    by_cases hlt : q < L
    · have hqK : q < K.length := by rw [hL.out]; exact hlt
      obtain ⟨g, rfl, hgB, hgl, hcell⟩ := hI.cell q hqK
      obtain ⟨⟨i, s⟩, hmem, hKi⟩ := (hKm'.out _).1 (List.getElem_mem hqK)
      replace hKi : (i : Int) = K[q] := hKi
      rw [← hKi] at hcell
      obtain ⟨hin, hsl⟩ := hse.out (i, s) hmem
      replace hin : i < n := hin
      replace hsl : s.length = 64 := hsl
      have hfind := find_mem hap hmem
      have hlook := run_lookP1 hP i s hfind
      have hnk : (i : Int) ∉ K.take q := by
        intro hm
        obtain ⟨j, hj⟩ := List.mem_iff_getElem?.1 hm
        have hjl := (List.getElem?_eq_some_iff.1 hj).1
        rw [List.length_take] at hjl
        rw [List.getElem?_take, if_pos (by omega), hKi, ← List.getElem?_eq_getElem hqK] at hj
        have := (List.getElem?_inj (by omega) hKd'.out).1 hj
        omega
      have hcl := choiceM_lt cs q
      obtain ⟨cv, hcv⟩ : ∃ x, choiceM cs q = x := ⟨_, rfl⟩
      rw [hcv] at hcl
      have hml := survM_le cv
      obtain ⟨m, hm⟩ : ∃ x, survM cv = x := ⟨_, rfl⟩
      rw [hm] at hml
      have hTn : Hid (TornTo n d.dat d.pend (K.take (q + 1)) (overB E (i * 64) (s.take m))) := by
        have := hT.next hin hmem hsl hml hnk hap (fun x hx => (hse.out x hx).1)
        rw [hKi, ← List.take_succ_eq_append_getElem hqK] at this
        exact this
      have hEl := hT.len
      obtain ⟨w4, hw4, hS, hq4⟩ := new_var wr 66 (secC sec0) (secC s)
      have hdd4 := hdd.later hq4
      have hX4 := hX.later hq4
      have hP4 := hP.later hq4
      have hI4 : Ints w4 (some ⟨g, 0, none⟩) c2 K (w1.heap.size + 1) := hI.same hq4.size (fun x _ hx => hq4.block x hx)
      have hB4 := hB.later hq4
      have o4 : Hid (OffF (DF p kb mb) w w4) := o1.out.trans (OffF.of hq4)
      have hs0 : sec0.length = 64 := by decide
      have z1 : Hid _ := sec_size s hsl
      have z2 : Hid _ := sec_one s
      have z3 : Hid _ := secC_same s sec0 hsl hs0
      have hltI : (q : Int) < (L : Int) := by omega
      have hq0 : (0 : Int) ≤ (q : Int) := by omega
      have hk4 : kb < wr.heap.size := hdd.lt
      have hk5 : p < wr.heap.size := hX.lt
      have hk6 : mb < wr.heap.size := hP.lt
      have c1 : wr.cell? ⟨p, 1, none⟩ = some (.map (some mb)) := (hX.cell 1).trans rfl
      have hsz4 : wr.heap.size < w4.heap.size := hS.lt
      replace hI : Hid _ := hI
      clear hfind hT hqK hmem hnk hdd hX hP hB o1 hq4 hKi
      go_wp2_with (first
        | (refine wpList_alloc_has (by rfl) 66 rfl (secC sec0) sec_zeroI ?_)
        | (refine wpList_store_to (by rfl) 66 _ _ rfl wr.heap.size rfl (secC s) rfl 66 (secC sec0) z1.out z3.out.symm z2.out ?hg w4 ?hW ?_; (case hg => exact Has.new _ _ _); (case hW => exact hw4); clear hw4)
        | fail)
      clear hlook hcell c1
      have hX5 := hX4.drew
      have hS5 := hS.drew
      have hdd5 := hdd4.drew
      have hP5 : PendAt w4.drew mb d.pend := hP4.later (Below.refl _ _).drew
      have hI5 : Ints w4.drew (some ⟨g, 0, none⟩) c2 K (w1.heap.size + 1) := hI4.same (Nat.le_refl _) (fun x _ hx => (Below.refl _ w4).drew.block x hx)
      have hB5 : By w4.drew ao c cs := hB4.later (Below.refl _ _).drew
      have o5 : Hid (OffF (DF p kb mb) w w4.drew) := o4.out.trans (OffF.of (Below.refl _ _).drew)
      have hsz5 : wr.heap.size < w4.drew.heap.size := hsz4
      clear hX4 hS hdd4 hP4 hI4 hB4 o4 hsz4
      have hinI : (i : Int) < (n : Int) := by omega
      have hin0 : (0 : Int) ≤ (i : Int) := by omega
      have hm64 : (m : Int) ≤ 64 := by omega
      have hm0 : (0 : Int) ≤ (m : Int) := by omega
      refine wp_region_plan (fun W => Has W p 47 (diskC kb mb n st 0 false) ∧ Has W wr.heap.size 66 (secC s) ∧ By W ao c cs) (Plan.of [(0, true), (1, true), (2, true), (3, true), (4, true), (5, true), (6, true), (7, true), (11, true), (8, false), (9, false), (10, true), (12, false)] .done) (by kernel_rfl) (by kernel_rfl) (by kernel_rfl) (by kernel_rfl) ⟨hX5, hS5, hB5⟩ ?_
      generalize w4.drew = w5 at *
      iterate 3
        first
          | (refine plan_pass _ rfl (by rfl) ?_)
          | (refine plan_take _ _ rfl (.inl ⟨by rfl, fun W hS => by clear hS; go_simp; try with_reducible rfl⟩) ?_)
        try simp only [Act.put, List.setIfInBounds_toArray, List.set_cons_zero, List.set_cons_succ]
      iterate 1
        first
          | (refine plan_pass _ rfl (by rfl) ?_)
          | (refine plan_take _ _ rfl (.inl ⟨by rfl, fun W hS => by have z : W.cell? ⟨p, 0, none⟩ = some (.slice (some ⟨kb, 0, none⟩) n n) := (hS.1.cell 0).trans rfl; go_simp; try with_reducible rfl⟩) ?_)
        try simp only [Act.put, List.setIfInBounds_toArray, List.set_cons_zero, List.set_cons_succ]
      iterate 1
        first
          | (refine plan_pass _ rfl (by rfl) ?_)
          | (refine plan_take _ _ rfl (.inl ⟨by rfl, fun W hS => by clear hS; go_simp; try with_reducible rfl⟩) ?_)
        try simp only [Act.put, List.setIfInBounds_toArray, List.set_cons_zero, List.set_cons_succ]
      refine plan_take _ (.pointer (some ⟨kb, i * 64, none⟩)) rfl (.inl ⟨by rfl, fun W hS => by clear hS; go_simp; try with_reducible rfl⟩) ?_
      try simp only [Act.put, List.setIfInBounds_toArray, List.set_cons_zero, List.set_cons_succ]
      iterate 2
        first
          | (refine plan_pass _ rfl (by rfl) ?_)
          | (refine plan_take _ _ rfl (.inl ⟨by rfl, fun W hS => by clear hS; go_simp; try with_reducible rfl⟩) ?_)
        try simp only [Act.put, List.setIfInBounds_toArray, List.set_cons_zero, List.set_cons_succ]
      refine plan_take _ (.slice (some ⟨wr.heap.size, 0, none⟩) 64 64) rfl (.inl ⟨by rfl, fun W hS => by clear hS; go_simp; try with_reducible rfl⟩) ?_
      try simp only [Act.put, List.setIfInBounds_toArray, List.set_cons_zero, List.set_cons_succ]
      refine plan_run _ rfl (fun K' hK' => ?_)
      go_simp
      refine (choice_any ao k c q cs _ hB5 hk.out).mono ?_
      rintro en w6 ⟨rfl, rfl⟩
      rw [hcv]
      refine hK'.out _ _ ⟨hX5, hS5, hB5⟩ ?_
      clear hK' K'
      try simp only [Act.put, List.setIfInBounds_toArray, List.set_cons_zero, List.set_cons_succ]
      refine plan_run _ rfl (fun K' hK' => ?_)
      go_simp
      refine (survives_any cv _ hcl).mono ?_
      rintro en w7 ⟨rfl, rfl⟩
      rw [hm]
      refine hK'.out _ _ ⟨hX5, hS5, hB5⟩ ?_
      clear hK' K'
      try simp only [Act.put, List.setIfInBounds_toArray, List.set_cons_zero, List.set_cons_succ]
      refine plan_take _ (.slice (some ⟨kb, i * 64, none⟩) m 64) rfl (.inl ⟨by rfl, fun W hS => by clear hS; go_simp; try with_reducible rfl⟩) ?_
      try simp only [Act.put, List.setIfInBounds_toArray, List.set_cons_zero, List.set_cons_succ]
      have hBs : By w7 (some ⟨wr.heap.size, 0, none⟩) 64 s := by rw [← hsl]; exact By.ofBlock (t := 66) hS5 (by omega)
      have hbt : But kb w7 (w7.setRow kb (Bs (overB E (i * 64) (s.take m))).toArray) := but_row _ _
      have hdd6 := hdd5.row (Bs (overB E (i * 64) (s.take m))).toArray
      obtain ⟨w8, hw8⟩ : ∃ W, w7.setRow kb (Bs (overB E (i * 64) (s.take m))).toArray = W := ⟨_, rfl⟩
      rw [hw8] at hbt hdd6
      have hX6 := hbt.has hX5 hpk
      have hS6 := hbt.has hS5 (show wr.heap.size ≠ kb by omega)
      have hB6 : By w8 ao c cs := hB5.sameN (fun hne ad had => hbt.block _ (by have := (hlt1.out ad had hne).1; omega) (fun z => (hlt1.out ad had hne).2 (.inr (.inl z))))
      have hP6 : PendAt w8 mb d.pend := hP5.block (hbt.block _ hP5.lt (Ne.symm hkm))
      have hI6 : Ints w8 (some ⟨g, 0, none⟩) c2 K (w1.heap.size + 1) := hI5.same hbt.size (fun x hx1 hx2 => hbt.block x hx2 (by omega))
      have o6 : Hid (OffF (DF p kb mb) w w8) := o5.out.trans ((OffF.but hbt).more (fun k hk => .inr (.inl hk)))
      have hsz6 : w1.heap.size < w8.heap.size := by have := hbt.size; omega
      refine plan_copyB _ rfl (by rfl) _ _ rfl 66 kb (i * 64) m 64 (some ⟨wr.heap.size, 0, none⟩) 64 64 m E s rfl rfl hBs hsl.symm hdd5 (by omega) (by omega) w8 hw8 ⟨hX6, hS6, hB6⟩ ?_
      try simp only [Act.put, List.setIfInBounds_toArray, List.set_cons_zero, List.set_cons_succ]
      refine plan_done ?_
      clear hX5 hS5 hdd5 hP5 hI5 hB5 o5 hBs hbt hw8 hS6
      replace hdd6 : Hid _ := hdd6
      replace hX6 : Hid _ := hX6
      replace hP6 : Hid _ := hP6
      replace hI6 : Hid _ := hI6
      replace hB6 : Hid _ := hB6
      go_wp2
      go_roundw
      case rel => exact ⟨q + 1, _, by omega, by go_num, hTn.out, hdd6.out, hX6.out, hP6.out, hI6.out, hB6.out, hsz6, o6⟩
      case measure => simp [intOf]; omega
    · have hLI : ¬ (q : Int) < (L : Int) := by omega
      have hF : Hid (Torn n d.dat d.pend E) := hT.done fun i => by
        rw [List.take_of_length_le (by have := hL.out; omega)]
        rw [hKm'.out]
        constructor
        · rintro ⟨⟨a, b⟩, hy, hz⟩
          have : a = i := by
            have hz : (a : Int) = (i : Int) := hz
            omega
          subst this
          exact ⟨b, hy⟩
        · rintro ⟨b, hy⟩
          exact ⟨(i, b), hy, rfl⟩
      have hEl := hT.len
      have c1 : wr.cell? ⟨p, 1, none⟩ = some (.map (some mb)) := (hX.cell 1).trans rfl
      replace hdd : Hid _ := hdd
      replace hX : Hid _ := hX
      clear hT hI hB
      go_wp2_with (first
        | (refine wpList_clearP rfl _ rfl rfl hP ?_)
        | fail)
      intro ob hP2
      have hfin : Hid (DiskAt (putBlock wr mb ob) p kb mb n ⟨E, [], 0, false⟩ ∧ OffF (DF p kb mb) w (putBlock wr mb ob)) :=
        ⟨⟨⟨st, (show Has wr p 47 (diskC kb mb n st 0 false) from hX.out).put_other hpm ob⟩, (show Has wr kb 66 (Bs E).toArray from hdd.out).put_other hkm ob, hEl, hP2, hn0, hn1, Nat.zero_le _, (fun x hx => by cases hx), by simp⟩, o1.out.trans (offPut wr ob (.inr (.inr rfl)))⟩
      clear hP c1 hP2
      go_wp2
      go_end0
      exact ⟨rfl, E, hF.out, hfin.out.1, hfin.out.2⟩
theorem dcrash_any (p kb mb n : Nat) (d : DskV) (ao : Option Addr) (k c : Nat) (cs : List UInt8) (w : World) (h : DiskAt w p kb mb n d) (hB : By w ao c cs) (hk : k = cs.length) (hpl : d.pend.length ≤ 1000) (hlt : ∀ ad, ao = some ad → ad.block < w.heap.size ∧ ¬ DF p kb mb ad.block) :
    Calls Tryz.prog 10 #[.pointer (some ⟨p, 0, none⟩), .slice ao k c] w fun e w' => e = .returned (.tuple #[]) ∧ ∃ E, Torn n d.dat d.pend E ∧ DiskAt w' p kb mb n ⟨E, [], 0, false⟩ ∧ OffF (DF p kb mb) w w' :=
  dcrash_ne p kb mb n d ao k c cs w h hB hk hpl (fun ad had _ => hlt ad had)
end
end Go.Proofs.YtpnpjblohijajabGreat
