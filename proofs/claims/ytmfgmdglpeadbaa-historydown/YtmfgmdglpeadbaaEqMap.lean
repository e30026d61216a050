/- Two maps held against each other by '=='. -/
import Derived.Test.YtmfgmdglpeadbaaOpenMap
import Derived.DeepKeys
namespace Go.Proofs.Ytmfgmdglpeadbaa
set_option linter.unusedSimpArgs false
set_option linter.unusedVariables false
open Go.RowKit

def osdK (o : OsdV) : List Lit := [.bool o.up, .int .i64 o.wt, .int .u8 o.host]

def mapK (m : MapV) : List Lit := .int .u32 m.epoch :: (osdK (m.osd 0) ++ (osdK (m.osd 1) ++ (osdK (m.osd 2) ++ (osdK (m.osd 3) ++ osdK (m.osd 4)))))

theorem map_key : Try.prog.keyTypeAt 5 44 = true := by kernel_rfl

theorem wf_i64 {n : Int} (h0 : -9223372036854775808 ≤ n) (h1 : n ≤ 9223372036854775807) : (Lit.int .i64 n).wf = true := by
  simp [Lit.wf, IntKind.min, IntKind.max, IntKind.signed, IntKind.bits]; omega
theorem wf_u8 {n : Nat} (h : n < 256) : (Lit.int .u8 n).wf = true := by
  simp [Lit.wf, IntKind.min, IntKind.max, IntKind.signed, IntKind.bits]; omega
theorem wf_u32 {n : Nat} (h : n < 4294967296) : (Lit.int .u32 n).wf = true := by
  simp [Lit.wf, IntKind.min, IntKind.max, IntKind.signed, IntKind.bits]; omega

theorem osd_lits (o : OsdV) (h : OsdFit o) (D : Nat) : Try.prog.keyLits (D + 2) 41 (osdL o) = some (osdK o) := by
  have w1 := wf_i64 h.1.1 h.1.2
  have w2 := wf_u8 h.2
  unfold Program.keyLits
  rw [Try.underlying41]
  simp [osdL, osdK, cells_osd, cells_bool, cells_int, cells_u8, Program.keyLits, Try.underlying4, Try.underlying3, Try.underlying5, w1, w2]

theorem osds_lits (f : Fin 5 → OsdV) (h : ∀ i, OsdFit (f i)) (D : Nat) :
    Try.prog.keyLits (D + 3) 42 (osdL (f 0) ++ (osdL (f 1) ++ (osdL (f 2) ++ (osdL (f 3) ++ osdL (f 4))))) = some (osdK (f 0) ++ (osdK (f 1) ++ (osdK (f 2) ++ (osdK (f 3) ++ osdK (f 4))))) := by
  unfold Program.keyLits
  rw [Try.underlying42]
  have e0 := osd_lits (f 0) (h 0) D
  have e1 := osd_lits (f 1) (h 1) D
  have e2 := osd_lits (f 2) (h 2) D
  have e3 := osd_lits (f 3) (h 3) D
  have e4 := osd_lits (f 4) (h 4) D
  simp only [osdL] at e0 e1 e2 e3 e4
  simp [osdL, cells_osd, cells_osds, show List.range 5 = [0, 1, 2, 3, 4] from rfl, e0, e1, e2, e3, e4]

theorem map_lits (m : MapV) (h : MapOk m) : Try.prog.keyLits 5 44 (mapL m) = some (mapK m) := by
  have w0 := wf_u32 h.epoch
  have e := osds_lits m.osd (fun i => ⟨h.wt i, h.host i⟩) 1
  have hl : (osdL (m.osd 0) ++ (osdL (m.osd 1) ++ (osdL (m.osd 2) ++ (osdL (m.osd 3) ++ osdL (m.osd 4))))).length = 15 := rfl
  unfold Program.keyLits mapL mapK
  rw [Try.underlying44]
  generalize osdL (m.osd 0) ++ (osdL (m.osd 1) ++ (osdL (m.osd 2) ++ (osdL (m.osd 3) ++ osdL (m.osd 4)))) = L at *
  generalize osdK (m.osd 0) ++ (osdK (m.osd 1) ++ (osdK (m.osd 2) ++ (osdK (m.osd 3) ++ osdK (m.osd 4)))) = K at *
  have ht : L.take 15 = L := List.take_of_length_le (by omega)
  have e' : Try.prog.keyLits 4 23 [.int .u32 m.epoch] = some [.int .u32 m.epoch] := by
    unfold Program.keyLits
    rw [Try.underlying23]
    simp [w0]
  simp [cells_map, cells_u32, cells_osds, hl, ht, e, e']

theorem mapK_inj {a b : MapV} (h : mapK a = mapK b) : a = b := by
  obtain ⟨e, f⟩ := a
  obtain ⟨e', f'⟩ := b
  have ho : ∀ o p : OsdV, ∀ r s : List Lit, osdK o ++ r = osdK p ++ s → o = p ∧ r = s := by
    intro o p r s hh
    obtain ⟨u, n, k⟩ := o
    obtain ⟨u', n', k'⟩ := p
    simp [osdK] at hh
    obtain ⟨rfl, rfl, h3, rfl⟩ := hh
    have : k = k' := by omega
    subst this
    exact ⟨rfl, rfl⟩
  unfold mapK at h
  simp only [List.cons.injEq, Lit.int.injEq, true_and] at h
  obtain ⟨h0, h⟩ := h
  obtain ⟨a0, h⟩ := ho _ _ _ _ h
  obtain ⟨a1, h⟩ := ho _ _ _ _ h
  obtain ⟨a2, h⟩ := ho _ _ _ _ h
  obtain ⟨a3, h⟩ := ho _ _ _ _ h
  have h4 : osdK (f 4) ++ [] = osdK (f' 4) ++ [] := by rw [List.append_nil, List.append_nil]; exact h
  obtain ⟨a4, _⟩ := ho _ _ _ _ h4
  have he : e = e' := by omega
  subst he
  congr 1
  funext i
  match i with
  | 0 => exact a0
  | 1 => exact a1
  | 2 => exact a2
  | 3 => exact a3
  | 4 => exact a4

/-- What '==' says of two maps. -/
theorem eq_map (a b : MapV) (ha : MapOk a) (hb : MapOk b) (w : World) : ∃ r : Bool, (binOp .eql 44 (.agg (mapC a)) (.agg (mapC b))).run Try.prog w = .ok (.bool r) w ∧ (r = true ↔ a = b) := by
  have fa : (Value.agg (mapC a)).formed Try.prog 44 = true := by simp [Value.formed, Try.underlying44, mapC_size, cells_map]
  have fb : (Value.agg (mapC b)).formed Try.prog 44 = true := by simp [Value.formed, Try.underlying44, mapC_size, cells_map]
  obtain ⟨r, hr, hiff⟩ := run_equalIn_deep 9995 5 44 map_key w 5 5 (.agg (mapC a)) (.agg (mapC b)) (mapK a) (mapK b) fa fb (map_lits a ha) (map_lits b hb)
  refine ⟨r, ?_, hiff.trans ⟨mapK_inj, fun h => by rw [h]⟩⟩
  have hr : (Op.equalIn 10000 44 (.agg (mapC a)) (.agg (mapC b))).run Try.prog w = .ok r w := hr
  rw [run_eql_struct, hr]
  rfl

theorem eq_map_same (a : MapV) (ha : MapOk a) (w : World) : (binOp .eql 44 (.agg (mapC a)) (.agg (mapC a))).run Try.prog w = .ok (.bool true) w := by
  obtain ⟨r, hr, hiff⟩ := eq_map a a ha ha w
  rw [hr, hiff.2 rfl]
end Go.Proofs.Ytmfgmdglpeadbaa
