/- The program's numbers and words, written. The program's symbols of lengths and distances. -/
import Derived.Test.YtgfbbcnnmoamnaaGreatDoorDA
namespace Go.Proofs.YtgfbbcnnmoamnaaGreatDoor
open Go.RowKit

theorem numBits_succ (v n : Nat) : numBits v (n + 1) = numBits v n ++ [v / 2 ^ n % 2] := by simp [numBits, List.range_succ]
/-- the first j bits of a word -/
def wordPre (c n j : Nat) : List Nat := (List.range j).map fun i => c / 2 ^ (n - 1 - i) % 2
theorem wordPre_succ (c n j : Nat) : wordPre c n (j + 1) = wordPre c n j ++ [c / 2 ^ (n - 1 - j) % 2] := by simp [wordPre, List.range_succ]
theorem wordPre_len (c n j : Nat) : (wordPre c n j).length = j := by simp [wordPre]
theorem and_one (x : Nat) (hx : x < 4611686018427387904) : bits .and .i64 (x : Int) 1 = ((x % 2 : Nat) : Int) := by
  have h2 := i64_and_nat x 1 hx (by omega)
  rw [Nat.and_one_is_mod] at h2
  exact h2
section
variable {g : Nat} {T : TypeId} {rest : List Value} {b : List Nat} {o : Value}
theorem BW.lt {w : World} (h : BW g T rest b o w) : g < w.heap.size := by obtain ⟨_, _, h⟩ := h; exact h.lt
theorem BW.ownge {w : World} (h : BW g T rest b o w) {c : Nat} (hc : o.ownBlock = some c) : g + 1 ≤ c ∧ c < w.heap.size := by obtain ⟨_, _, h⟩ := h; exact h.own.lt c hc
theorem BW.below {w w' : World} (h : BW g T rest b o w) (hb : Below w.heap.size w w') : BW g T rest b o w' := by obtain ⟨x, h1, h⟩ := h; exact ⟨x, h1, h.below hb⟩
theorem BW.drew {w : World} (h : BW g T rest b o w) : BW g T rest b o w.drew := by obtain ⟨x, h1, h⟩ := h; exact ⟨x, h1, h.drew⟩
theorem BW.drewN {w : World} (h : BW g T rest b o w) (m : Nat) : BW g T rest b o (w.drewN m) := by obtain ⟨x, h1, h⟩ := h; exact ⟨x, h1, h.drewN m⟩
theorem BW.alloc {w : World} (h : BW g T rest b o w) (c : Obj) : BW g T rest b o (w.alloc c) := h.below ((Below.refl _ w).alloc (Nat.le_refl _) c)
set_option maxHeartbeats 1000000 in
set_option maxRecDepth 8000 in
theorem wnumber_any (v n : Nat) (hv : v < 1000000) (hn : n ≤ 16) (w : World) (h : BW g T rest b o w) (hb : b.length + n < 400000) :
    Calls Tryz.prog 51 #[.pointer (some ⟨g, 0, none⟩), .int .i64 (v : Int), .int .i64 (n : Int)] w fun e w' => e = .returned (.tuple #[]) ∧ ∃ o', BW g T rest (b ++ numBits v n) o' w' ∧ Step g o o' w w' := by
  have HH : Hid (BW g T rest b o w) := h
  clear h
  go_enter Tryz.func51, Tryz.ntmps51
  go_wp2
  go_loopw [8] (fun vi wr => ∃ (j : Nat) (o' : Value), j ≤ n ∧ vi = .int .i64 (j : Int) ∧ BW g T rest (b ++ numBits v j) o' wr ∧ Step g o o' w wr) (fun vi _ => n - (intOf vi).toNat)
  case atStart => exact ⟨0, o, by omega, rfl, by simpa [numBits] using HH.out, Step.refl ..⟩
  case round =>
    obtain ⟨j, o', hj, rfl, hbw, st⟩ := hrel
    by_cases hlt : j < n
    · have hle : v / 2 ^ j ≤ v := Nat.div_le_self ..
      have hand := and_one (v / 2 ^ j) (by omega)
      have e0 : ((v / 2 ^ j : Nat) : Int) = (v : Int) / 2 ^ j := by simp
      rw [e0] at hand
      have hB2 : v / 2 ^ j % 2 < 2 := Nat.mod_lt _ (by omega)
      have HS := (show Hid _ from numBits_succ v j)
      obtain ⟨B, HB⟩ := hid_intro (v / 2 ^ j % 2)
      rw [← HB.out] at hand hB2 HS
      have HL : Hid ((b ++ numBits v j).length < 400000) := by show _ < _; rw [List.length_append, numBits_len]; omega
      obtain ⟨NB, HNB⟩ := hid_intro (numBits v j)
      rw [← HNB.out] at HS hbw HL
      clear hle e0
      go_wp2_with (go_at_call 114; refine (wbit_any B hB2 wr hbw HL.out).mono ?_; rintro e w1 ⟨rfl, o1, hb1, st1⟩)
      go_roundw
      case rel => exact ⟨j + 1, o1, by omega, by go_num, by rw [HS.out, ← List.append_assoc]; exact hb1, st.trans st1⟩
      case measure => simp [intOf]; omega
    · obtain rfl : j = n := by omega
      go_wp2
      refine bodyPost_end (results_none rfl _ _ _) rfl ⟨rfl, o', hbw, st⟩
set_option maxHeartbeats 1000000 in
set_option maxRecDepth 8000 in
theorem wword_any (c n : Nat) (hc : c < 1000000) (hn : n ≤ 16) (w : World) (h : BW g T rest b o w) (hb : b.length + n < 400000) :
    Calls Tryz.prog 57 #[.pointer (some ⟨g, 0, none⟩), .agg #[.int .i64 (c : Int), .int .i64 (n : Int)]] w fun e w' => e = .returned (.tuple #[]) ∧ ∃ o', BW g T rest (b ++ wordBits c n) o' w' ∧ Step g o o' w w' := by
  have HH : Hid (BW g T rest b o w) := h
  have HG : Hid (w.heap.size ≠ g ∧ o.ownBlock ≠ some w.heap.size) := ⟨by have := h.lt; omega, fun e => by have := (h.ownge e).2; omega⟩
  clear h
  go_enter Tryz.func57, Tryz.ntmps57
  go_wp2
  go_loopw [4] (fun vi wr => ∃ (j : Nat) (o' : Value), j ≤ n ∧ vi = .int .i64 ((n : Int) - 1 - (j : Int)) ∧ BW g T rest (b ++ wordPre c n j) o' wr ∧ Step g o o' (w.alloc (.cells #[.int .i64 (c : Int), .int .i64 (n : Int)] 124)) wr) (fun vi _ => (intOf vi + 1).toNat)
  case atStart => exact ⟨0, o, by omega, by simp, by simpa [wordPre] using HH.out.alloc _, Step.refl ..⟩
  case round =>
    obtain ⟨j, o', hj, rfl, hbw, st⟩ := hrel
    by_cases hlt : j < n
    · obtain ⟨i, hi⟩ : ∃ i : Nat, i = n - 1 - j := ⟨_, rfl⟩
      have ei : (n : Int) - 1 - (j : Int) = (i : Int) := by omega
      have hblk := (st.block w.heap.size (by simp) HG.out.1 HG.out.2).trans (heap_alloc_new w _)
      have hc0 : wr.cell? ⟨w.heap.size, 0, none⟩ = some (.int .i64 (c : Int)) := cell_of_row wr w.heap.size 0 _ _ _ hblk
      have hle : c / 2 ^ i ≤ c := Nat.div_le_self ..
      have hand := and_one (c / 2 ^ i) (by omega)
      have e0 : ((c / 2 ^ i : Nat) : Int) = (c : Int) / 2 ^ i := by simp
      rw [e0] at hand
      have hB2 : c / 2 ^ i % 2 < 2 := Nat.mod_lt _ (by omega)
      have HS := (show Hid _ from wordPre_succ c n j)
      rw [← hi] at HS
      obtain ⟨B, HB⟩ := hid_intro (c / 2 ^ i % 2)
      rw [← HB.out] at hand hB2 HS
      have HL : Hid ((b ++ wordPre c n j).length < 400000) := by show _ < _; rw [List.length_append, wordPre_len]; omega
      obtain ⟨NB, HNB⟩ := hid_intro (wordPre c n j)
      rw [← HNB.out] at HS hbw HL
      have HII : Hid (i = n - 1 - j) := hi
      rw [ei]
      clear hle e0 hblk hi
      go_wp2_with (go_at_call 114; refine (wbit_any B hB2 wr hbw HL.out).mono ?_; rintro e w1 ⟨rfl, o1, hb1, st1⟩)
      go_roundw
      case rel => exact ⟨j + 1, o1, by omega, by have := HII.out; go_num, by rw [HS.out, ← List.append_assoc]; exact hb1, st.trans st1⟩
      case measure => have := HII.out; simp [intOf] <;> omega
    · obtain rfl : j = n := by omega
      have ei : (j : Int) - 1 - (j : Int) = -1 := by omega
      rw [ei]
      go_wp2
      refine bodyPost_end (results_none rfl _ _ _) rfl ⟨rfl, o', hbw, (Step.alloc (Step.refl ..) _).trans st⟩
end
end Go.Proofs.YtgfbbcnnmoamnaaGreatDoor

namespace Go.Proofs.YtgfbbcnnmoamnaaGreatDoor
open Go.RowKit

theorem span_base (a b : Int) (w : World) : (Instr.field 214 (.agg #[.int .i64 a, .int .i64 b]) 0).run Tryz.prog w = .ok (.int .i64 a) w := by kernel_rfl
set_option maxHeartbeats 400000 in
set_option maxRecDepth 8000 in
theorem lengthSymbol_any (l : Nat) (h1 : 3 ≤ l) (h2 : l ≤ 258) (w : World) :
    Calls Tryz.prog 117 #[.int .i64 (l : Int)] w fun e w' => e = .returned (.int .i64 ((257 + lenSym l : Nat) : Int)) ∧ Below w.heap.size w w' := by
  obtain ⟨R, HR⟩ := hid_intro (lenSym l)
  rw [← HR.out]
  go_enter Tryz.func117, Tryz.ntmps117
  go_wp2
  go_loopw [3] (fun vi wr => ∃ i : Nat, i ≤ 28 ∧ vi = .int .i64 ((257 + i : Nat) : Int) ∧ Hid (R = nearest lenSpan l i) ∧ Below w.heap.size w wr) (fun vi _ => (intOf vi).toNat)
  case atStart => exact ⟨28, by omega, rfl, HR, Below.refl ..⟩
  case round =>
    obtain ⟨i, hi, rfl, HRi, hb⟩ := hrel
    have hd : 257 + i - 257 = i := by omega
    have HS := (show Hid _ from fun w => lengthSpan_any (257 + i) (by omega) (by omega) w)
    rw [hd] at HS
    clear hd
    have hsz := hb.size
    by_cases hlt : (lenSpan i).1 > l
    · obtain ⟨j, rfl⟩ : ∃ j, i = j + 1 := ⟨i - 1, by
        rcases Nat.eq_zero_or_pos i with rfl | h
        · have : (lenSpan 0).1 = 3 := rfl
          omega
        · omega⟩
      have HRj : Hid (R = nearest lenSpan l j) := by show _ = _; rw [HRi.out, nearest, if_neg (by omega)]
      obtain ⟨sp, HSP⟩ := hid_intro (lenSpan (j + 1))
      rw [← HSP.out] at HS hlt
      unfold spanV at HS
      have hfd := span_base sp.1 sp.2
      go_wp2_with (go_at_call 119; refine (HS.out _).mono ?_; rintro e w1 ⟨rfl, hb1⟩)
      go_roundw
      case rel => exact ⟨j, by omega, by go_num, HRj, hb.trans (hb1.mono hsz)⟩
      case measure => simp [intOf]; omega
    · have HRj : Hid (R = i) := by
        show _ = _
        rw [HRi.out]
        cases i with
        | zero => rfl
        | succ j => rw [nearest, if_pos (by omega)]
      obtain ⟨sp, HSP⟩ := hid_intro (lenSpan i)
      rw [← HSP.out] at HS hlt
      unfold spanV at HS
      have hfd := span_base sp.1 sp.2
      go_wp2_with (go_at_call 119; refine (HS.out _).mono ?_; rintro e w1 ⟨rfl, hb1⟩)
      go_ret
      exact ⟨ret_int (by have := HRj.out; omega), hb.trans (hb1.mono hsz)⟩
set_option maxHeartbeats 400000 in
set_option maxRecDepth 8000 in
theorem distanceSymbol_any (l : Nat) (h1 : 1 ≤ l) (h2 : l ≤ 32768) (w : World) :
    Calls Tryz.prog 120 #[.int .i64 (l : Int)] w fun e w' => e = .returned (.int .i64 (distSym l : Int)) ∧ Below w.heap.size w w' := by
  obtain ⟨R, HR⟩ := hid_intro (distSym l)
  rw [← HR.out]
  go_enter Tryz.func120, Tryz.ntmps120
  go_wp2
  go_loopw [3] (fun vi wr => ∃ i : Nat, i ≤ 29 ∧ vi = .int .i64 (i : Int) ∧ Hid (R = nearest distSpan l i) ∧ Below w.heap.size w wr) (fun vi _ => (intOf vi).toNat)
  case atStart => exact ⟨29, by omega, rfl, HR, Below.refl ..⟩
  case round =>
    obtain ⟨i, hi, rfl, HRi, hb⟩ := hrel
    have HS := (show Hid _ from fun w => distanceSpan_any i (by omega) w)
    have hsz := hb.size
    by_cases hlt : (distSpan i).1 > l
    · obtain ⟨j, rfl⟩ : ∃ j, i = j + 1 := ⟨i - 1, by
        rcases Nat.eq_zero_or_pos i with rfl | h
        · have : (distSpan 0).1 = 1 := rfl
          omega
        · omega⟩
      have HRj : Hid (R = nearest distSpan l j) := by show _ = _; rw [HRi.out, nearest, if_neg (by omega)]
      obtain ⟨sp, HSP⟩ := hid_intro (distSpan (j + 1))
      rw [← HSP.out] at HS hlt
      unfold spanV at HS
      have hfd := span_base sp.1 sp.2
      go_wp2_with (go_at_call 121; refine (HS.out _).mono ?_; rintro e w1 ⟨rfl, hb1⟩)
      go_roundw
      case rel => exact ⟨j, by omega, by go_num, HRj, hb.trans (hb1.mono hsz)⟩
      case measure => simp [intOf]
    · have HRj : Hid (R = i) := by
        show _ = _
        rw [HRi.out]
        cases i with
        | zero => rfl
        | succ j => rw [nearest, if_pos (by omega)]
      obtain ⟨sp, HSP⟩ := hid_intro (distSpan i)
      rw [← HSP.out] at HS hlt
      unfold spanV at HS
      have hfd := span_base sp.1 sp.2
      go_wp2_with (go_at_call 121; refine (HS.out _).mono ?_; rintro e w1 ⟨rfl, hb1⟩)
      go_ret
      exact ⟨ret_int (by have := HRj.out; omega), hb.trans (hb1.mono hsz)⟩
end Go.Proofs.YtgfbbcnnmoamnaaGreatDoor
