/- The program's finder, its steps. -/
import Derived.Test.YtfohjjcihioinaaGreatDoorDG
namespace Go.Proofs.YtfohjjcihioinaaGreatDoor
open Go.RowKit Go.Maps

section
variable {F M Bf : Nat} {s : ByteArray} {p : Nat} {w : World}
set_option maxHeartbeats 1000000 in
set_option maxRecDepth 8000 in
theorem startAt_any (i : Nat) (hi : i + 3 ≤ s.size) (w : World) (h : Fnd F M Bf s p w) :
    Calls Tryz.prog 163 #[.pointer (some ⟨F, 0, none⟩), .int .i64 (i : Int)] w fun e w' => e = .returned (keyV (start3 s.data.toList i)) ∧ Below w.heap.size w w' := by
  have q0 := fun w => idx_str s (i : Int) i (by omega) (by omega) w
  have q1 := fun w => idx_str s ((i : Int) + 1) (i + 1) (by omega) (by omega) w
  have q2 := fun w => idx_str s ((i : Int) + 2) (i + 2) (by omega) (by omega) w
  have e0 := byte_at s i (by omega)
  have e1 := byte_at s (i + 1) (by omega)
  have e2 := byte_at s (i + 2) (by omega)
  have hst : start3 s.data.toList i = (s.data.toList.getD i 0, s.data.toList.getD (i + 1) 0, s.data.toList.getD (i + 2) 0) := rfl
  rw [hst]
  rw [e0] at q0
  rw [e1] at q1
  rw [e2] at q2
  obtain ⟨a, Ha⟩ := hid_intro (s.data.toList.getD i 0)
  obtain ⟨b, Hb⟩ := hid_intro (s.data.toList.getD (i + 1) 0)
  obtain ⟨c, Hc⟩ := hid_intro (s.data.toList.getD (i + 2) 0)
  rw [← Ha.out] at q0 ⊢
  rw [← Hb.out] at q1 ⊢
  rw [← Hc.out] at q2 ⊢
  have hs := h.hs
  obtain ⟨Z, HZ⟩ : ∃ Z, Hid (Z = w.alloc (.cells #[.int .u8 0, .int .u8 0, .int .u8 0] 250)) := ⟨_, rfl⟩
  have hc0 : Z.drew.cell? ⟨F, 0, none⟩ = some (.string s) := by rw [HZ.out]; exact (h.alloc _).drew.c0
  have hzr : Z.heap[w.heap.size]? = some (.cells #[.int .u8 0, .int .u8 0, .int .u8 0] 250 (0, 0)) := by rw [HZ.out]; exact heap_alloc_new w _
  have hzb : Below w.heap.size w Z := by rw [HZ.out]; exact (Below.refl _ w).alloc (Nat.le_refl _) _
  have hw1 : IntKind.i64.wrap ((i : Int) + 1) = (i : Int) + 1 := by rw [IntKind.wrap_i64]; omega
  have hw2 : IntKind.i64.wrap ((i : Int) + 2) = (i : Int) + 2 := by rw [IntKind.wrap_i64]; omega
  clear e0 e1 e2 hst h
  go_enter Tryz.func163, Tryz.ntmps163
  go_wp2
  rw [← HZ.out]
  clear HZ
  refine region_tail 21 (by kernel_rfl) (by kernel_rfl) ?_
  simp only [List.take_succ_cons, List.take_zero, List.drop_succ_cons, List.drop_zero]
  repeat still_step
  refine wpStill_nil ?_
  refine wpList_store_row rfl 250 (.tmp 4) (.tmp 25) rfl w.heap.size #[.int .u8 (a.toNat : Int), .int .u8 (b.toNat : Int), .int .u8 (c.toNat : Int)] rfl rfl 250 _ (show Z.drew.heap[w.heap.size]? = _ from hzr) sizeStart rfl ?_ ?_
  · simp [Value.oneCell']
  go_wp2
  refine bodyPost_ret_by (v := keyV (a, b, c)) (results_cell_row Tryz.results163 _ _ w.heap.size 250 _ (0, 0) _ rfl (setRow_heap _ _ _ _ _ _ (show Z.drew.heap[w.heap.size]? = _ from hzr)) Tryz.underlying250 rfl sizeStart) rfl ⟨rfl, below_row hzb.drew (Nat.le_refl _) _⟩
/-- how many bytes are the same from two places on -/
def AlkN (L : List UInt8) (f a n : Nat) : Prop := n ≤ 258 ∧ a + n ≤ L.length ∧ (∀ i, i < n → L.getD (f + i) 0 = L.getD (a + i) 0) ∧ (n = 258 ∨ a + n = L.length ∨ L.getD (f + n) 0 ≠ L.getD (a + n) 0)
set_option maxHeartbeats 1000000 in
set_option maxRecDepth 8000 in
theorem alike_any (f a : Nat) (hfa : f < a) (ha : a ≤ s.size) (w : World) (h : Fnd F M Bf s p w) :
    Calls Tryz.prog 164 #[.pointer (some ⟨F, 0, none⟩), .int .i64 (f : Int), .int .i64 (a : Int)] w fun e w' => ∃ n : Nat, e = .returned (.int .i64 (n : Int)) ∧ AlkN s.data.toList f a n ∧ ∃ m, w' = w.drewN m := by
  have hss : s.data.toList.length = s.size := by simp
  have hs := h.hs
  have HF := (show Hid (Fnd F M Bf s p w) from h)
  clear h
  go_enter Tryz.func164, Tryz.ntmps164
  go_wp2
  go_loopw [7] (fun vn wr => ∃ n m : Nat, vn = .int .i64 (n : Int) ∧ n ≤ 258 ∧ a + n ≤ s.size ∧ Hid (∀ i, i < n → s.data.toList.getD (f + i) 0 = s.data.toList.getD (a + i) 0) ∧ wr = w.drewN m) (fun vn _ => 258 - (intOf vn).toNat)
  case atStart => exact ⟨0, 0, rfl, by omega, by omega, fun i hi => by omega, (World.drewN_zero w).symm⟩
  case round =>
    obtain ⟨n, m, rfl, hn, han, HE, hw⟩ := hrel
    rw [hw]; clear hw
    have hc0 := HF.out.c0
    by_cases h258 : n < 258
    · have hb1 : decide ((n : Int) < 258) = true := decide_eq_true (by omega)
      by_cases hend : a + n < s.size
      · have hb2 : decide ((a : Int) + (n : Int) < (s.size : Int)) = true := decide_eq_true (by omega)
        have q1 := fun w => idx_str s ((f : Int) + (n : Int)) (f + n) (by omega) (by omega) w
        have q2 := fun w => idx_str s ((a : Int) + (n : Int)) (a + n) (by omega) (by omega) w
        have e1 := byte_at s (f + n) (by omega)
        have e2 := byte_at s (a + n) (by omega)
        rw [e1] at q1
        rw [e2] at q2
        obtain ⟨x, HX⟩ := hid_intro (s.data.toList.getD (f + n) 0)
        obtain ⟨y, HY⟩ := hid_intro (s.data.toList.getD (a + n) 0)
        rw [← HX.out] at q1
        rw [← HY.out] at q2
        have hw1 : IntKind.i64.wrap ((f : Int) + (n : Int)) = (f : Int) + (n : Int) := by rw [IntKind.wrap_i64]; omega
        have hw2 : IntKind.i64.wrap ((a : Int) + (n : Int)) = (a : Int) + (n : Int) := by rw [IntKind.wrap_i64]; omega
        clear e1 e2
        by_cases hxy : x = y
        · have hb3 : ((x.toNat : Int) == (y.toNat : Int)) = true := by rw [hxy]; simp
          have HXY := (show Hid _ from hxy)
          clear hxy
          go_wp2
          go_quiet (fail)
          go_wp2
          go_roundw
          case rel => exact ⟨n + 1, m + nq, by go_num, by omega, by omega, fun i hi => by
              by_cases hi2 : i < n
              · exact HE.out i hi2
              · obtain rfl : i = n := by omega
                rw [← HX.out, ← HY.out]; exact HXY.out, by first | rfl | rw [World.drewN_drewN]⟩
          case measure => simp [intOf]; omega
        · have hb3 : ((x.toNat : Int) == (y.toNat : Int)) = false := beq_eq_false_iff_ne.2 (fun e => hxy (UInt8.toNat_inj.1 (by omega)))
          have HXY := (show Hid _ from hxy)
          clear hxy
          go_wp2
          go_quiet (fail)
          go_wp2
          go_ret
          exact ⟨n, rfl, ⟨by omega, by omega, HE.out, .inr (.inr (by rw [← HX.out, ← HY.out]; exact HXY.out))⟩, m + nq, by rw [World.drewN_drewN]⟩
      · have hb2 : decide ((a : Int) + (n : Int) < (s.size : Int)) = false := decide_eq_false (by omega)
        have hw2 : IntKind.i64.wrap ((a : Int) + (n : Int)) = (a : Int) + (n : Int) := by rw [IntKind.wrap_i64]; omega
        go_wp2
        go_quiet (fail)
        go_wp2
        go_ret
        exact ⟨n, rfl, ⟨by omega, by omega, HE.out, .inr (.inl (by omega))⟩, m + nq, by rw [World.drewN_drewN]⟩
    · have hb1 : decide ((n : Int) < 258) = false := decide_eq_false (by omega)
      go_wp2
      go_quiet (fail)
      go_wp2
      go_ret
      exact ⟨n, rfl, ⟨by omega, by omega, HE.out, .inl (by omega)⟩, m + nq, by rw [World.drewN_drewN]⟩
end
end Go.Proofs.YtfohjjcihioinaaGreatDoor
