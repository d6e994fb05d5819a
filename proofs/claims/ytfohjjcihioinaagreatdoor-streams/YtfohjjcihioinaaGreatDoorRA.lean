/- The document's reader of bits. -/
import Derived.Test.YtfohjjcihioinaaGreatDoorBase
import Derived.Test.YtfohjjcihioinaaGreatDoorBits
import Derived.Deep.AppendLies
import Derived.OwnWalk
namespace Go.Proofs.YtfohjjcihioinaaGreatDoor
open Go.RowKit

/-- the document's reading: the text, the place, what came out, the limit, the error -/
structure Flo (g : Nat) (s : ByteArray) (lim : Nat) (k : Nat) (o : Value) (out : List UInt8) (e : Nat) (w : World) : Prop where
  hs : s.size ≤ 20000
  hl : lim ≤ 20000
  blk : w.heap[g]? = some (.cells #[.string s, .int .i64 k, o, .int .i64 lim, .int .i64 e] 77 (0, 0))
  own : w.ownsRow (g + 1) 5 1 o out.length (Lib.byteCells out)
  hk : k ≤ 8 * s.size
  ho : out.length ≤ lim
  he : e = 0 ∨ e = 5 ∨ e = 6
section
variable {g : Nat} {s : ByteArray} {lim k : Nat} {o : Value} {out : List UInt8} {e : Nat} {w : World}
theorem Flo.c0 (h : Flo g s lim k o out e w) : w.cell? ⟨g, 0, none⟩ = some (.string s) := cell_of_row w g 0 _ _ _ h.blk
theorem Flo.c1 (h : Flo g s lim k o out e w) : w.cell? ⟨g, 1, none⟩ = some (.int .i64 k) := cell_of_row w g 1 _ _ _ h.blk
theorem Flo.c2 (h : Flo g s lim k o out e w) : w.cell? ⟨g, 2, none⟩ = some o := cell_of_row w g 2 _ _ _ h.blk
theorem Flo.c3 (h : Flo g s lim k o out e w) : w.cell? ⟨g, 3, none⟩ = some (.int .i64 lim) := cell_of_row w g 3 _ _ _ h.blk
theorem Flo.c4 (h : Flo g s lim k o out e w) : w.cell? ⟨g, 4, none⟩ = some (.int .i64 e) := cell_of_row w g 4 _ _ _ h.blk
theorem Flo.free (h : Flo g s lim k o out e w) (j : Nat) : w.frozen? ⟨g, j, none⟩ = false := frozen_of_row w g j _ _ h.blk
theorem Flo.lt (h : Flo g s lim k o out e w) : g < w.heap.size := lt_of_block h.blk
theorem Flo.ownge (h : Flo g s lim k o out e w) {b : Nat} (hb : o.ownBlock = some b) : g + 1 ≤ b := (h.own.lt b hb).1
theorem Flo.drewN (h : Flo g s lim k o out e w) (m : Nat) : Flo g s lim k o out e (w.drewN m) := ⟨h.hs, h.hl, h.blk, h.own, h.hk, h.ho, h.he⟩
theorem Flo.drew (h : Flo g s lim k o out e w) : Flo g s lim k o out e w.drew := ⟨h.hs, h.hl, h.blk, h.own, h.hk, h.ho, h.he⟩
theorem Flo.below {w' : World} (h : Flo g s lim k o out e w) (hb : Below w.heap.size w w') : Flo g s lim k o out e w' :=
  ⟨h.hs, h.hl, (hb.block g h.lt).trans h.blk, own_below h.own hb, h.hk, h.ho, h.he⟩
theorem Flo.alloc (h : Flo g s lim k o out e w) (b : Obj) : Flo g s lim k o out e (w.alloc b) := h.below ((Below.refl _ w).alloc (Nat.le_refl _) b)
/-- the reading goes on -/
theorem Flo.read (h : Flo g s lim k o out e w) (k' : Nat) (hk' : k' ≤ 8 * s.size) {v : Int} (hv : v = (k' : Int)) : Flo g s lim k' o out e (w.setCell ⟨g, 1, none⟩ (.int .i64 v)) := by
  subst hv
  refine ⟨h.hs, h.hl, ?_, ownsRow_setCell_below h.own (by simp) _, hk', h.ho, h.he⟩
  rw [heap_setCell_same _ _ _ _ _ _ h.blk]; rfl
/-- an error -/
theorem Flo.fail (h : Flo g s lim k o out e w) (e' : Nat) (he' : e' = 0 ∨ e' = 5 ∨ e' = 6) {v : Int} (hv : v = (e' : Int)) : Flo g s lim k o out e' (w.setCell ⟨g, 4, none⟩ (.int .i64 v)) := by
  subst hv
  refine ⟨h.hs, h.hl, ?_, ownsRow_setCell_below h.own (by simp) _, h.hk, h.ho, he'⟩
  rw [heap_setCell_same _ _ _ _ _ _ h.blk]; rfl
end
/-- the error behind a fault: the first one stays -/
def orBad (e : Nat) : Nat := if e = 0 then 5 else e
section
variable {g : Nat} {s : ByteArray} {lim k : Nat} {o : Value} {out : List UInt8} {e : Nat}
set_option maxHeartbeats 400000 in
theorem wrong_any (w : World) (h : Flo g s lim k o out e w) :
    Calls Tryz.prog 52 #[.pointer (some ⟨g, 0, none⟩)] w fun r w' => r = .returned (.tuple #[]) ∧ Flo g s lim k o out (orBad e) w' ∧ Step g o o w w' := by
  have h4 := h.c4
  have hf := h.free 4
  go_enter Tryz.func52, Tryz.ntmps52
  by_cases he : e = 0
  · subst he
    go_wp2
    refine bodyPost_end (results_none rfl _ _ _) rfl ⟨rfl, h.fail 5 (by omega) rfl, Step.cell w ⟨g, 4, none⟩ rfl _⟩
  · have hb : orBad e = e := by unfold orBad; rw [if_neg he]
    rw [hb]
    have he' : ((e : Int) == 0) = false := by simp; omega
    go_wp2
    refine bodyPost_end (results_none rfl _ _ _) rfl ⟨rfl, h, Step.refl ..⟩
set_option maxHeartbeats 400000 in
theorem rbit_end (w : World) (h : Flo g s lim k o out e w) (hk : k = 8 * s.size) :
    Calls Tryz.prog 123 #[.pointer (some ⟨g, 0, none⟩)] w fun r w' => r = .returned (.int .i64 0) ∧ Flo g s lim k o out (orBad e) w' ∧ Step g o o w w' := by
  have h0 := h.c0
  have h1 := h.c1
  have hs := h.hs
  have HF : Hid (Flo g s lim k o out e w) := h
  clear h
  go_enter Tryz.func123, Tryz.ntmps123
  go_wp2
  go_quiet (fail)
  go_wp2_with (go_at_call 52; refine (wrong_any _ (HF.out.drewN _)).mono ?_; rintro r w1 ⟨rfl, hf1, st1⟩)
  go_ret
  exact ⟨rfl, hf1, (Step.drewN (Step.refl ..) _).trans st1⟩
set_option maxHeartbeats 400000 in
theorem rbit_ok (w : World) (h : Flo g s lim k o out e w) (hk : k < 8 * s.size) :
    Calls Tryz.prog 123 #[.pointer (some ⟨g, 0, none⟩)] w fun r w' => r = .returned (.int .i64 (bitAt s.data.toList k)) ∧ Flo g s lim (k + 1) o out e w' ∧ Step g o o w w' := by
  have q0 := fun w => idx_str s ((k : Int) / 8) (k / 8) (by omega) (by omega) w
  have h0 := h.c0
  have h1 := h.c1
  have hs := h.hs
  have hff := h.free 1
  have HF : Hid (Flo g s lim k o out e w) := h
  clear h
  go_enter Tryz.func123, Tryz.ntmps123
  go_wp2
  go_quiet (fail)
  go_wp2
  go_quiet (fail)
  go_wp2
  obtain ⟨y, Hy⟩ := hid_intro s[k / 8]
  rw [← Hy.out]
  have hy := y.toNat_lt
  go_loopw [3, 4] (fun vx vi wr => ∃ i : Nat, i ≤ k % 8 ∧ vi = .int .i64 i ∧ vx = .int .i64 ((y.toNat / 2 ^ i : Nat) : Int) ∧ Flo g s lim k o out e wr ∧ Step g o o w wr) (fun _ vi _ => k % 8 - (intOf vi).toNat)
  case atStart => exact ⟨0, by omega, rfl, by rw [wrap64_in' _ (by omega)]; simp, (HF.out.drewN _).drewN _, Step.drewN (Step.drewN (Step.refl ..) _) _⟩
  case round =>
    clear h0 h1 hff HF
    obtain ⟨i, hi, rfl, rfl, hf, st⟩ := hrel
    have c1 := hf.c1
    have cf := hf.free 1
    obtain ⟨q, Hq⟩ := hid_intro (y.toNat / 2 ^ i)
    have hq : q < 256 := by rw [Hq.out]; exact Nat.lt_of_le_of_lt (Nat.div_le_self _ _) (by omega)
    rw [← Hq.out]
    by_cases hlt : i < k % 8
    · have HQ : Hid (y.toNat / 2 ^ (i + 1) = q / 2) := by show _ = _; rw [Hq.out, Nat.div_div_eq_div_mul, Nat.pow_succ]
      have ht : (q : Int).tdiv 2 = ((q / 2 : Nat) : Int) := by rw [Int.tdiv_eq_ediv_of_nonneg (by omega)]; omega
      go_wp2
      go_roundw
      case rel => exact ⟨i + 1, by omega, by go_num, by rw [HQ.out]; simp, hf, st⟩
      case measure => simp [intOf]; omega
    · obtain rfl : i = k % 8 := by omega
      have ht : (q : Int).tmod 2 = ((q % 2 : Nat) : Int) := by rw [Int.tmod_eq_emod_of_nonneg (by omega)]; omega
      have HB : Hid (bitAt s.data.toList k = q % 2) := by show _ = _; unfold bitAt; rw [← byte_at s (k / 8) (by omega), ← Hy.out, Hq.out]
      go_wp2
      go_ret
      exact ⟨ret_int (by rw [HB.out]; omega), hf.read (k + 1) (by omega) (by omega), st.trans (Step.cell _ ⟨g, 1, none⟩ rfl _)⟩
theorem bitAt_end (l : List UInt8) (k : Nat) (h : 8 * l.length ≤ k) : bitAt l k = 0 := by
  unfold bitAt
  have : l.getD (k / 8) 0 = 0 := by simp; rw [List.getElem?_eq_none (by omega)]; rfl
  rw [this]; simp
/-- the error behind n bits -/
def errN (s : ByteArray) (k n e : Nat) : Nat := if k + n ≤ 8 * s.size then e else orBad e
theorem orBad_or (e : Nat) : orBad (orBad e) = orBad e := by unfold orBad; split <;> simp_all
set_option maxHeartbeats 400000 in
theorem rnumber_any (n : Nat) (hn : n ≤ 16) (w : World) (h : Flo g s lim k o out e w) :
    Calls Tryz.prog 51 #[.pointer (some ⟨g, 0, none⟩), .int .i64 n] w fun r w' => r = .returned (.int .i64 (numAt s.data.toList k n)) ∧ Flo g s lim (min (k + n) (8 * s.size)) o out (errN s k n e) w' ∧ Step g o o w w' := by
  go_enter Tryz.func51, Tryz.ntmps51
  go_wp2
  go_loopw [5, 6, 7] (fun vn vp vi wr => ∃ j : Nat, j ≤ n ∧ vi = .int .i64 j ∧ vp = .int .i64 ((2 ^ j : Nat) : Int) ∧ vn = .int .i64 (numAt s.data.toList k j) ∧ Flo g s lim (min (k + j) (8 * s.size)) o out (errN s k j e) wr ∧ Step g o o w wr) (fun _ _ vi _ => n - (intOf vi).toNat)
  case atStart => exact ⟨0, by omega, rfl, rfl, rfl, by have := h.hk; rw [Nat.min_eq_left (by omega)]; unfold errN; rw [if_pos (by omega)]; exact h, Step.refl ..⟩
  case round =>
    have hk0 := h.hk
    clear h
    obtain ⟨j, hj, rfl, rfl, rfl, hf, st⟩ := hrel
    by_cases hlt : j < n
    · have hv := numAt_lt s.data.toList k j
      have hb := bitAt_lt s.data.toList (k + j)
      have HV : Hid (numAt s.data.toList k (j + 1) = numAt s.data.toList k j + 2 ^ j * bitAt s.data.toList (k + j)) := rfl
      have hpw := pow_small j (by omega)
      have HP : Hid (2 ^ (j + 1) = 2 * 2 ^ j) := by show _ = _; rw [Nat.pow_succ]; omega
      obtain ⟨v, Hv⟩ := hid_intro (numAt s.data.toList k j)
      obtain ⟨b, Hb⟩ := hid_intro (bitAt s.data.toList (k + j))
      obtain ⟨p, Hp⟩ := hid_intro (2 ^ j)
      rw [← Hv.out, ← Hb.out, ← Hp.out] at HV
      rw [← Hp.out] at HP hv hpw ⊢
      rw [← Hv.out] at hv ⊢
      rw [← Hb.out] at hb
      obtain ⟨M, HM⟩ := hid_intro (p * b)
      have hM : (p : Int) * (b : Int) = (M : Int) := by rw [HM.out]; simp
      have hM2 : M ≤ p := by rw [HM.out]; have : p * b ≤ p * 1 := Nat.mul_le_mul_left _ (by omega); omega
      rw [← HM.out] at HV
      by_cases hend : k + j < 8 * s.size
      · have e1 : errN s k (j + 1) e = errN s k j e := by unfold errN; rw [if_pos (by omega), if_pos (by omega)]
        have HK : Hid (min (k + j) (8 * s.size) = k + j ∧ min (k + (j + 1)) (8 * s.size) = k + j + 1) := ⟨by omega, by omega⟩
        rw [HK.out.1] at hf
        go_wp2_with (go_at_call 123; refine (rbit_ok wr hf hend).mono ?_; rintro r w1 ⟨rfl, hf1, st1⟩; rw [← Hb.out])
        go_roundw
        case rel => exact ⟨j + 1, by omega, by go_num, by rw [HP.out]; simp, by rw [HV.out]; simp, by rw [HK.out.2, e1]; exact hf1, st.trans st1⟩
        case measure => simp [intOf]; omega
      · have hb0 : b = 0 := by rw [Hb.out]; exact bitAt_end _ _ (by simp; omega)
        subst hb0
        have e1 : errN s k (j + 1) e = orBad (errN s k j e) := by
          unfold errN
          rw [if_neg (by omega)]
          split
          · rfl
          · rw [orBad_or]
        have HK : Hid (min (k + j) (8 * s.size) = 8 * s.size ∧ min (k + (j + 1)) (8 * s.size) = 8 * s.size) := ⟨by omega, by omega⟩
        rw [HK.out.1] at hf
        go_wp2_with (go_at_call 123; refine (rbit_end wr hf rfl).mono ?_; rintro r w1 ⟨rfl, hf1, st1⟩)
        go_roundw
        case rel => exact ⟨j + 1, by omega, by go_num, by rw [HP.out]; simp, by rw [HV.out, HM.out]; simp, by rw [HK.out.2, e1]; exact hf1, st.trans st1⟩
        case measure => simp [intOf]; omega
    · obtain rfl : j = n := by omega
      go_wp2
      go_ret
      exact ⟨rfl, hf, st⟩
end
end Go.Proofs.YtfohjjcihioinaaGreatDoor
