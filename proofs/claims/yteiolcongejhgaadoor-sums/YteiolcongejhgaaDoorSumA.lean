/- What the program's round and schedule answer. -/
import Derived.Test.YteiolcongejhgaaDoorLeaf
import Derived.Deep.WholeRow
namespace Go.Proofs.YteiolcongejhgaaDoor
open Go.RowKit

set_option maxHeartbeats 400000 in
theorem round_any (a b c d e f g h key : W32) (w : World) :
    Calls Tryd.prog 27 #[.agg (row [a, b, c, d, e, f, g, h]), .int .u32 key.toNat] w fun en w' => en = .returned (.agg (row (rnd [a, b, c, d, e, f, g, h] key))) ∧ Below w.heap.size w w' := by
  simp only [row, List.map, rnd]
  go_enter Tryd.func27, Tryd.ntmps27
  go_wp2
  go_quiet (fail)
  go_wp2
  go_quiet (first | (go_at_call 34; refine quiet_plus_same (bS1_any _ _)) | (go_at_call 35; refine quiet_plus_same (choose_any _ _ _ _)))
  go_wp2_with (first | (go_at_call 36; refine (bS0_any _ _).mono ?_; rintro e w' ⟨rfl, rfl⟩) | (go_at_call 37; refine (maj_any _ _ _ _).mono ?_; rintro e w' ⟨rfl, rfl⟩))
  refine bodyPost_ret (v := .agg (row (rnd [a, b, c, d, e, f, g, h] key))) ?_ rfl ⟨rfl, ?_⟩
  · simp [results, Tryd.results27, go_sem, row, rnd, BitVec.toNat_add]
  · repeat (refine Below.setCell ?_ (by simp) _)
    exact below_drewN (((Below.refl _ _).alloc (Nat.le_refl _) _).alloc (by simp) _) _
theorem idx_str (s : ByteArray) (i : Int) (j : Nat) (hij : i = j) (h : j < s.size) (w : World) :
    (Instr.index 9 (.string s) (.int .i64 i)).run Tryd.prog w = .ok (.int .u8 s[j].toNat) w := by
  subst hij
  rw [run_index_string w 9 s .i64 j Tryd.underlying9, dif_pos ⟨by omega, by omega⟩]
  simp
theorem wordAt_any (s : ByteArray) (i : Nat) (hi : i + 3 < s.size) (hs : s.size ≤ maxLen) (w : World) :
    Calls Tryd.prog 31 #[.string s, .int .i64 i] w fun en w' => en = .returned (.int .u32 (be4 s[i].toNat s[i+1].toNat s[i+2].toNat s[i+3].toNat).toNat) ∧ ∃ k, w' = w.drewN k := by
  unfold maxLen at hs
  have q0 := fun w => idx_str s (i : Int) i rfl (by omega) w
  have q1 := fun w => idx_str s ((i : Int) + 1) (i + 1) (by omega) (by omega) w
  have q2 := fun w => idx_str s ((i : Int) + 2) (i + 2) (by omega) (by omega) w
  have q3 := fun w => idx_str s ((i : Int) + 3) (i + 3) (by omega) (by omega) w
  go_enter Tryd.func31, Tryd.ntmps31
  go_wp2
  go_quiet (fail)
  go_wp2
  go_ret
  exact ⟨ret_int (be4_or _ _ _ _ (s[i].toNat_lt) (s[i+1].toNat_lt) (s[i+2].toNat_lt) (s[i+3].toNat_lt)), nq, rfl⟩
end Go.Proofs.YteiolcongejhgaaDoor
