/- The program's reader of bits. The program's spans. -/
import Derived.Test.YtgfbbcnnmoamnaaGreatDoorBase
import Derived.Test.YtgfbbcnnmoamnaaGreatDoorBits
import Derived.OwnWalk
namespace Go.Proofs.YtgfbbcnnmoamnaaGreatDoor
open Go.RowKit

theorem ret_pair {a b a' b' : Value} (ha : a = a') (hb : b = b') : Ending.returned (.tuple #[a, b]) = .returned (.tuple #[a', b']) := by rw [ha, hb]
section
variable {er : Errs} {g : Nat} {s : ByteArray} {lim : Nat} {fx : List Value} {k : Nat} {o : Value} {out : List UInt8}

set_option maxHeartbeats 400000 in
theorem bit_ok (w : World) (h : Inf er g s lim fx k o out w) (hk : k < 8 * s.size) :
    Calls Tryz.prog 160 #[.pointer (some ⟨g, 0, none⟩)] w fun e w' => e = .returned (.tuple #[.int .i64 (bitAt s.data.toList k), .nilIface]) ∧ Inf er g s lim fx (k + 1) o out w' ∧ Step g o o w w' := by
  have q0 := fun w => idx_str s ((k : Int) / 8) (k / 8) (by omega) (by omega) w
  have h0 := h.c0
  have h1 := h.c1
  have hf := h.free 1
  have hs := h.hs
  have HI : Hid (Inf er g s lim fx k o out w) := h
  clear h
  go_enter Tryz.func160, Tryz.ntmps160
  go_wp2
  go_quiet (fail)
  go_wp2
  go_quiet (fail)
  go_wp2
  go_ret2
  have e := bit_val s[k / 8] (k % 8)
  have e2 : wrap64 (bits .and .u8 ((s[k / 8].toNat : Int) / 2 ^ (k % 8)) 1) = ((bitAt s.data.toList k : Nat) : Int) := by
    rw [e, byte_at]; unfold bitAt; rw [wrap64_in' _ (by omega)]
  exact ⟨ret_pair (congrArg _ e2) rfl, ((HI.out.drewN _).read (k + 1) (by omega) (by omega)).1, (Step.drewN (Step.refl ..) _).trans ((HI.out.drewN _).read (k + 1) (by omega) (by omega)).2⟩
set_option maxHeartbeats 400000 in
theorem bit_end (w : World) (h : Inf er g s lim fx k o out w) (hk : k = 8 * s.size) :
    Calls Tryz.prog 160 #[.pointer (some ⟨g, 0, none⟩)] w fun e w' => e = .returned (.tuple #[.int .i64 0, errV er.short]) ∧ Inf er g s lim fx k o out w' ∧ Step g o o w w' := by
  have h0 := h.c0
  have h1 := h.c1
  have hs := h.hs
  have he := h.errs.short
  have HI : Hid (Inf er g s lim fx k o out w) := h
  clear h
  go_enter Tryz.func160, Tryz.ntmps160
  go_wp2
  go_quiet (fail)
  go_wp2
  go_quiet (fail)
  go_wp2
  go_ret2
  exact ⟨rfl, (HI.out.drewN _).drewN _, Step.drewN (Step.drewN (Step.refl ..) _) _⟩

set_option maxHeartbeats 400000 in
theorem number_ok (n : Nat) (hn : n ≤ 16) (w : World) (h : Inf er g s lim fx k o out w) (hk : k + n ≤ 8 * s.size) :
    Calls Tryz.prog 161 #[.pointer (some ⟨g, 0, none⟩), .int .i64 n] w fun e w' => e = .returned (.tuple #[.int .i64 (numAt s.data.toList k n), .nilIface]) ∧ Inf er g s lim fx (k + n) o out w' ∧ Step g o o w w' := by
  go_enter Tryz.func161, Tryz.ntmps161
  go_wp2
  go_loopw [6, 11] (fun v i wr => ∃ j : Nat, j ≤ n ∧ i = .int .i64 j ∧ v = .int .i64 (numAt s.data.toList k j) ∧ Inf er g s lim fx (k + j) o out wr ∧ Step g o o w wr) (fun _ i _ => n - (intOf i).toNat)
  case atStart => exact ⟨0, by omega, rfl, rfl, h, Step.refl ..⟩
  case round =>
    clear h
    obtain ⟨j, hj, rfl, rfl, hi, st⟩ := hrel
    by_cases hlt : j < n
    · have hv := numAt_lt s.data.toList k j
      have hb := bitAt_lt s.data.toList (k + j)
      have HV : Hid (numAt s.data.toList k (j + 1) = numAt s.data.toList k j + 2 ^ j * bitAt s.data.toList (k + j)) := rfl
      obtain ⟨v, Hv⟩ := hid_intro (numAt s.data.toList k j)
      obtain ⟨b, Hb⟩ := hid_intro (bitAt s.data.toList (k + j))
      rw [← Hv.out, ← Hb.out] at HV
      rw [← Hv.out] at hv ⊢
      rw [← Hb.out] at hb
      have e := or_bit v b j hv hb (by omega)
      go_wp2_with (go_at_call 160; refine (bit_ok wr hi (by omega)).mono ?_; rintro e w1 ⟨rfl, hi1, st1⟩; rw [← Hb.out])
      go_roundw
      case rel => exact ⟨j + 1, by omega, by go_num, by rw [HV.out]; simp, hi1, st.trans st1⟩
      case measure => simp [intOf]; omega
    · obtain rfl : j = n := by omega
      go_wp2
      go_ret2
      exact ⟨rfl, hi, st⟩
set_option maxHeartbeats 400000 in
theorem number_end (n : Nat) (hn : n ≤ 16) (w : World) (h : Inf er g s lim fx k o out w) (hk : ¬ k + n ≤ 8 * s.size) :
    Calls Tryz.prog 161 #[.pointer (some ⟨g, 0, none⟩), .int .i64 n] w fun e w' => e = .returned (.tuple #[.int .i64 0, errV er.short]) ∧ Inf er g s lim fx (8 * s.size) o out w' ∧ Step g o o w w' := by
  go_enter Tryz.func161, Tryz.ntmps161
  go_wp2
  go_loopw [6, 11] (fun v i wr => ∃ (j : Nat) (x : Int), j ≤ n ∧ i = .int .i64 j ∧ v = .int .i64 x ∧ Inf er g s lim fx (k + j) o out wr ∧ Step g o o w wr) (fun _ i _ => n - (intOf i).toNat)
  case atStart => exact ⟨0, 0, by omega, rfl, rfl, h, Step.refl ..⟩
  case round =>
    clear h
    obtain ⟨j, x, hj, rfl, rfl, hi, st⟩ := hrel
    have hk2 := hi.hk
    have hlt : j < n := by omega
    by_cases hend : k + j = 8 * s.size
    · have HE : Hid (k + j = 8 * s.size) := hend
      clear hend hk2 hk
      go_wp2_with (go_at_call 160; refine (bit_end wr hi HE.out).mono ?_; rintro e w1 ⟨rfl, hi1, st1⟩; unfold errV)
      go_ret2
      exact ⟨rfl, HE.out ▸ hi1, st.trans st1⟩
    · go_wp2_with (go_at_call 160; refine (bit_ok wr hi (by omega)).mono ?_; rintro e w1 ⟨rfl, hi1, st1⟩)
      go_roundw
      case rel => exact ⟨j + 1, _, by omega, by go_num, rfl, hi1, st.trans st1⟩
      case measure => simp [intOf]; omega
end
end Go.Proofs.YtgfbbcnnmoamnaaGreatDoor

namespace Go.Proofs.YtgfbbcnnmoamnaaGreatDoor
open Go.RowKit

def spanV (p : Nat × Nat) : Value := .agg #[.int .i64 (p.1 : Int), .int .i64 (p.2 : Int)]
section
variable {er : Errs} {g : Nat} {s : ByteArray} {lim : Nat} {fx : List Value} {k : Nat} {o : Value} {out : List UInt8}

set_option maxHeartbeats 400000 in
theorem within_ok (p : Nat × Nat) (hb : p.1 < 100000) (hn : p.2 ≤ 16) (w : World) (h : Inf er g s lim fx k o out w) (hk : k + p.2 ≤ 8 * s.size) :
    Calls Tryz.prog 319 #[.pointer (some ⟨g, 0, none⟩), spanV p] w fun e w' => e = .returned (.tuple #[.int .i64 ((p.1 + numAt s.data.toList k p.2 : Nat) : Int), .nilIface]) ∧ Inf er g s lim fx (k + p.2) o out w' ∧ Step g o o w w' := by
  obtain ⟨b, m⟩ := p
  have hv := numAt_lt s.data.toList k m
  have hp := pow_small m (by omega)
  obtain ⟨v, Hv⟩ := hid_intro (numAt s.data.toList k m)
  rw [← Hv.out] at hv ⊢
  have hv2 : v < 4294967296 := by omega
  clear hv hp
  unfold spanV
  go_enter Tryz.func319, Tryz.ntmps319
  go_wp2_with (go_at_call 161; refine (number_ok m hn _ (h.alloc _) hk).mono ?_; rintro e w1 ⟨rfl, hi1, st1⟩; rw [← Hv.out]; have hb1 : w1.cell? ⟨w.heap.size, 0, none⟩ = some (.int .i64 (b : Int)) := (World.cell?_of_block (st1.block w.heap.size (by simp) (by have := h.lt; omega) (fun e => by have := (h.own.lt _ e).2; omega))).trans (by simp))
  go_ret2
  exact ⟨ret_pair (by simp) rfl, hi1, (Step.alloc (Step.refl ..) _).trans st1⟩
set_option maxHeartbeats 400000 in
theorem within_end (p : Nat × Nat) (hn : p.2 ≤ 16) (w : World) (h : Inf er g s lim fx k o out w) (hk : ¬ k + p.2 ≤ 8 * s.size) :
    Calls Tryz.prog 319 #[.pointer (some ⟨g, 0, none⟩), spanV p] w fun e w' => e = .returned (.tuple #[.int .i64 0, errV er.short]) ∧ Inf er g s lim fx (8 * s.size) o out w' ∧ Step g o o w w' := by
  obtain ⟨b, m⟩ := p
  unfold spanV
  go_enter Tryz.func319, Tryz.ntmps319
  go_wp2_with (go_at_call 161; refine (number_end m hn _ (h.alloc _) hk).mono ?_; rintro e w1 ⟨rfl, hi1, st1⟩; unfold errV)
  go_ret2
  exact ⟨rfl, hi1, (Step.alloc (Step.refl ..) _).trans st1⟩
end
theorem lenSpan_big (y : Nat) (h1 : 257 ≤ y) (h2 : y ≤ 285) (h3 : ¬ y = 285) (h4 : ¬ y < 261) : wrap64 (3 + wrap64 ((4 + ((y : Int) - 257) % 4) * 2 ^ (lenSpan (y - 257)).2)) = ((lenSpan (y - 257)).1 : Int) ∧ ((y : Int) - 257) / 4 - 1 = ((lenSpan (y - 257)).2 : Int) := by
  have : ∀ x, x < 28 → 4 ≤ x → wrap64 (3 + wrap64 ((4 + ((x : Nat) : Int) % 4) * 2 ^ (lenSpan x).2)) = ((lenSpan x).1 : Int) ∧ ((x : Int)) / 4 - 1 = ((lenSpan x).2 : Int) := by decide +kernel
  have h := this (y - 257) (by omega) (by omega)
  have e : ((y - 257 : Nat) : Int) = (y : Int) - 257 := by omega
  rw [e] at h
  exact h
theorem distSpan_big (y : Nat) (h2 : y ≤ 29) (h4 : ¬ y < 2) : wrap64 (1 + wrap64 ((2 + (y : Int) % 2) * 2 ^ (distSpan y).2)) = ((distSpan y).1 : Int) ∧ (y : Int) / 2 - 1 = ((distSpan y).2 : Int) := by
  have : ∀ x, x < 30 → 2 ≤ x → wrap64 (1 + wrap64 ((2 + ((x : Nat) : Int) % 2) * 2 ^ (distSpan x).2)) = ((distSpan x).1 : Int) ∧ ((x : Int)) / 2 - 1 = ((distSpan x).2 : Int) := by decide +kernel
  exact this y (by omega) (by omega)
set_option maxHeartbeats 400000 in
theorem lengthSpan_any (y : Nat) (h1 : 257 ≤ y) (h2 : y ≤ 285) (w : World) :
    Calls Tryz.prog 119 #[.int .i64 (y : Int)] w fun e w' => e = .returned (spanV (lenSpan (y - 257))) ∧ Below w.heap.size w w' := by
  go_enter Tryz.func119, Tryz.ntmps119
  by_cases h28 : y = 285
  · subst h28
    go_wp2
    refine bodyPost_ret (v := spanV (lenSpan (285 - 257))) ?_ rfl ⟨rfl, (Below.refl _ _).alloc (Nat.le_refl _) _⟩
    simp [results, Tryz.results119, go_sem, spanV, lenSpan]
  · by_cases h4 : y < 261
    · go_wp2
      refine bodyPost_ret (v := spanV (lenSpan (y - 257))) ?_ rfl ⟨rfl, (Below.refl _ _).alloc (Nat.le_refl _) _⟩
      have e1 : y - 257 ≠ 28 := by omega
      have e2 : y - 257 < 4 := by omega
      simp [results, Tryz.results119, go_sem, spanV, lenSpan, e1, e2]
      omega
    · obtain ⟨ea, _eb⟩ := lenSpan_big y h1 h2 h28 h4
      go_wp2
      refine bodyPost_ret (v := spanV (lenSpan (y - 257))) ?_ rfl ⟨rfl, (Below.refl _ _).alloc (Nat.le_refl _) _⟩
      simp [results, Tryz.results119, go_sem, spanV, ea]
set_option maxHeartbeats 400000 in
theorem distanceSpan_any (y : Nat) (h2 : y ≤ 29) (w : World) :
    Calls Tryz.prog 121 #[.int .i64 (y : Int)] w fun e w' => e = .returned (spanV (distSpan y)) ∧ Below w.heap.size w w' := by
  go_enter Tryz.func121, Tryz.ntmps121
  by_cases h4 : y < 2
  · go_wp2
    refine bodyPost_ret (v := spanV (distSpan y)) ?_ rfl ⟨rfl, (Below.refl _ _).alloc (Nat.le_refl _) _⟩
    simp [results, Tryz.results121, go_sem, spanV, distSpan, h4]
  · obtain ⟨ea, _eb⟩ := distSpan_big y h2 h4
    go_wp2
    refine bodyPost_ret (v := spanV (distSpan y)) ?_ rfl ⟨rfl, (Below.refl _ _).alloc (Nat.le_refl _) _⟩
    simp [results, Tryz.results121, go_sem, spanV, ea]
set_option maxHeartbeats 400000 in
theorem timesSpan_any (x : Nat) (h1 : 16 ≤ x) (w : World) (hx : x < 100) :
    Calls Tryz.prog 323 #[.int .i64 (x : Int)] w fun e w' => e = .returned (spanV (if x = 16 then (3, 2) else if x = 17 then (3, 3) else (11, 7))) ∧ Below w.heap.size w w' := by
  go_enter Tryz.func323, Tryz.ntmps323
  by_cases h16 : x = 16
  · subst h16
    go_wp2
    refine bodyPost_ret (v := spanV (3, 2)) ?_ rfl ⟨rfl, (Below.refl _ _).alloc (Nat.le_refl _) _⟩
    simp [results, Tryz.results323, go_sem, spanV]
  · by_cases h17 : x = 17
    · subst h17
      go_wp2
      refine bodyPost_ret (v := spanV (3, 3)) ?_ rfl ⟨rfl, (Below.refl _ _).alloc (Nat.le_refl _) _⟩
      simp [results, Tryz.results323, go_sem, spanV]
    · go_wp2
      refine bodyPost_ret (v := spanV (11, 7)) ?_ rfl ⟨rfl, (Below.refl _ _).alloc (Nat.le_refl _) _⟩
      simp [results, Tryz.results323, go_sem, spanV]
section
variable {er : Errs} {g : Nat} {s : ByteArray} {lim : Nat} {fx : List Value} {k : Nat} {o : Value} {out : List UInt8}
set_option maxHeartbeats 400000 in
theorem used_any (w : World) (h : Inf er g s lim fx k o out w) :
    Calls Tryz.prog 104 #[.pointer (some ⟨g, 0, none⟩)] w fun e w' => e = .returned (.int .i64 (((k + 7) / 8 : Nat) : Int)) ∧ w' = w := by
  have h1 := h.c1
  have hk := h.hk
  have hs := h.hs
  clear h
  go_enter Tryz.func104, Tryz.ntmps104
  go_wp2
  go_ret
  exact ⟨ret_int (by omega), rfl⟩
set_option maxHeartbeats 400000 in
theorem passByte_any (w : World) (h : Inf er g s lim fx k o out w) :
    Calls Tryz.prog 275 #[.pointer (some ⟨g, 0, none⟩)] w fun e w' => e = .returned (.tuple #[]) ∧ Inf er g s lim fx (8 * ((k + 7) / 8)) o out w' ∧ Step g o o w w' := by
  have hk := h.hk
  have hs := h.hs
  have hf := h.free 1
  have h1 := h.c1
  go_enter Tryz.func275, Tryz.ntmps275
  go_wp2_with (go_at_call 104; refine (used_any _ h).mono ?_; rintro e w1 ⟨rfl, rfl⟩)
  refine bodyPost_end (results_none rfl _ _ _) rfl ?_
  obtain ⟨hi, st⟩ := h.read (8 * ((k + 7) / 8)) (by omega) (v := 8 * (((k : Int) + 7) / 8)) (by omega)
  exact ⟨rfl, hi, st⟩
end
end Go.Proofs.YtgfbbcnnmoamnaaGreatDoor
