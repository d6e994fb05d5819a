/- What the program's padding, its first state and its last bytes are. -/
import Derived.Test.YteiolcongejhgaaDoorSumD
import Derived.Test.YteiolcongejhgaaDoorShelf
namespace Go.Proofs.YteiolcongejhgaaDoor
open Go.RowKit

theorem start_any (w : World) : Calls Tryd.prog 13 #[] w fun en w' => en = .returned (.agg (row first8)) ∧ Below w.heap.size w w' := by
  go_enter Tryd.func13, Tryd.ntmps13
  go_wp2
  refine bodyPost_ret (v := .agg (row first8)) ?_ rfl ⟨rfl, ?_⟩
  · simp [results, Tryd.results13, go_sem, row, first8]
  · repeat (refine Below.setCell ?_ (by simp) _)
    exact (Below.refl _ _).alloc (Nat.le_refl _) _

theorem ret_str {l l' : List UInt8} (h : l = l') : Ending.returned (.string ⟨l.toArray⟩) = .returned (.string ⟨l'.toArray⟩) := by rw [h]
theorem wb {B b : Nat} {l : List UInt8} {c : Int} (x : UInt8) {w : World} (h : Lib.IsBuilderF 30 5 B b (Lib.byteCells l) w) (hc : c = (x.toNat : Int)) (hl : l.length < 1000000) (hBw : B ≤ w.heap.size) :
    Calls Tryd.prog 10 #[.pointer (some ⟨b, 0, none⟩), .int .u8 c] w fun e w' => e = .returned .nilIface ∧ Lib.IsBuilderF 30 5 B b (Lib.byteCells (l ++ [x])) w' ∧ Below B w w' := by
  subst hc
  refine (Tryd.Builder_WriteByte B b _ _ w h (by rw [Lib.byteCells_length]; omega) hBw).mono ?_
  rintro e w' ⟨rfl, h1, h2, _⟩
  refine ⟨rfl, .inr ?_, h2⟩
  rw [Lib.byteCells_append]
  exact h1
theorem wstr {B b : Nat} {l : List UInt8} {s : ByteArray} {w : World} (h : Lib.IsBuilderF 30 5 B b (Lib.byteCells l) w) (hl : l.length + s.size < 1000000) (hBw : B ≤ w.heap.size) :
    Calls Tryd.prog 21 #[.pointer (some ⟨b, 0, none⟩), .string s] w fun e w' => e = .returned (.tuple #[.int .i64 s.size, .nilIface]) ∧ Lib.IsBuilderF 30 5 B b (Lib.byteCells (l ++ s.data.toList)) w' ∧ Below B w w' := by
  refine (Tryd.Builder_WriteString B b _ s w h (by rw [Lib.byteCells_length]; omega) hBw).mono ?_
  rintro e w' ⟨rfl, h1, h2, _⟩
  refine ⟨rfl, .inr ?_, h2⟩
  rw [Lib.byteCells_append]
  exact h1

set_option maxHeartbeats 1000000 in
theorem pad_any (t : ByteArray) (n : Nat) (ht : t.size < 64) (hn : n < 1152921504606846976) (w : World) :
    Calls Tryd.prog 14 #[.string t, .int .i64 n] w fun en w' => en = .returned (.string ⟨(padL t.data.toList n).toArray⟩) ∧ Below w.heap.size w w' := by
  have hb0 : Lib.IsBuilderF 30 5 w.heap.size w.heap.size (Lib.byteCells []) (w.alloc (.cells #[.pointer none, .slice none 0 0] 30)) := Lib.IsBuilderF.of (Lib.fresh_isBuilder 30 5 w)
  have HB : Hid (Below w.heap.size w (w.alloc (.cells #[.pointer none, .slice none 0 0] 30))) := (Below.refl _ w).alloc (Nat.le_refl _) _
  obtain ⟨z, HZ⟩ : ∃ z, Hid (z = padZ t.size) := ⟨_, rfl⟩
  have hz0 : (64 - ((t.size : Int) + 1 + 8) % 64) % 64 = (z : Int) := by rw [HZ.out]; unfold padZ; omega
  have hz1 : z < 64 := by rw [HZ.out]; unfold padZ; omega
  go_enter Tryd.func14, Tryd.ntmps14
  go_wp2_with (first
    | (go_at_call 21; refine (wstr hb0 (by simp; omega) (by simp)).mono ?_; rintro e w1 ⟨rfl, hb1, hl1⟩; have hs1 := hl1.size; simp only [World.size_alloc] at hs1)
    | (go_at_call 10; refine (wb 0x80 hb1 rfl (by simp; omega) (by omega)).mono ?_; rintro e w2 ⟨rfl, hb2, hl2⟩))
  have hlow : Below w.heap.size w w2 := (HB.out.trans hl1).trans hl2
  clear hb0 HB hb1 hl1 hs1 hl2
  go_loopw [22] (fun i wr => ∃ k : Nat, k ≤ z ∧ i = .int .i64 k ∧ Lib.IsBuilderF 30 5 w.heap.size w.heap.size (Lib.byteCells (t.data.toList ++ [0x80] ++ List.replicate k 0)) wr ∧ Below w.heap.size w wr) (fun i _ => z - (intOf i).toNat)
  case atStart => exact ⟨0, by omega, rfl, by simpa using hb2, hlow⟩
  case round =>
    clear hb2 hlow
    obtain ⟨k, hk, rfl, hb, hl⟩ := hrel
    have hsz := hl.size
    have htl : t.data.toList.length = t.size := by simp
    by_cases hlt : k < z
    · go_wp2_with (go_at_call 10; refine (wb 0 hb rfl (by simp; omega) hsz).mono ?_; rintro e w3 ⟨rfl, hb3, hl3⟩)
      go_roundw
      case rel => exact ⟨k + 1, by omega, by go_num, by rw [List.replicate_succ', ← List.append_assoc]; exact hb3, hl.trans hl3⟩
      case measure => simp [intOf]; omega
    · obtain rfl : k = z := by omega
      go_wp2
      go_loopw [9] (fun i wx => ∃ j : Nat, j ≤ 8 ∧ i = .int .i64 (56 - 8 * (j : Int)) ∧ Lib.IsBuilderF 30 5 w.heap.size w.heap.size (Lib.byteCells (t.data.toList ++ [0x80] ++ List.replicate k 0 ++ lenB n j)) wx ∧ Below w.heap.size w wx) (fun i _ => (intOf i + 8).toNat)
      case atStart => exact ⟨0, by omega, rfl, by simpa [lenB] using hb, hl⟩
      case round =>
        clear hb hl hsz
        obtain ⟨j, hj, rfl, hb, hl⟩ := hrel
        have hsz := hl.size
        by_cases hlt : j < 8
        · go_wp2_with (go_at_call 10; refine (wb (UInt8.ofNat (n * 8 / 2 ^ (56 - 8 * j))) hb (u8_shift n j (by omega) hlt) (by simp [lenB_len]; omega) hsz).mono ?_; rintro e w3 ⟨rfl, hb3, hl3⟩)
          go_roundw
          case rel => exact ⟨j + 1, by omega, by go_num, by rw [lenB, ← List.append_assoc]; exact hb3, hl.trans hl3⟩
          case measure => simp [intOf]; omega
        · obtain rfl : j = 8 := by omega
          go_wp2_with (go_at_call 11; refine (Tryd.Builder_String_any _ _ _ _ hb hsz).mono ?_; rintro e w3 ⟨rfl, _, hl3, _⟩)
          go_ret
          exact ⟨ret_str (by rw [padL, htl, ← HZ.out]; simp), hl.trans hl3⟩
end Go.Proofs.YteiolcongejhgaaDoor
