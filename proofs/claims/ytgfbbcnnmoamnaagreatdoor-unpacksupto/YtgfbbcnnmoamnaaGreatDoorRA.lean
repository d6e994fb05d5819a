/- The document's reader of bits. The document's bytes that come out. The document's bits of a number; are lengths right?. -/
import Derived.Test.YtgfbbcnnmoamnaaGreatDoorBase
import Derived.Test.YtgfbbcnnmoamnaaGreatDoorBits
import Derived.Deep.AppendLies
import Derived.OwnWalk
import Derived.Test.YtgfbbcnnmoamnaaGreatDoorSort
namespace Go.Proofs.YtgfbbcnnmoamnaaGreatDoor
open Go.RowKit

/-- the document's reading: the text, the place, what came out, the limit, the error -/
structure Flo (g : Nat) (s : ByteArray) (lim : Nat) (k : Nat) (o : Value) (out : List UInt8) (e : Nat) (w : World) : Prop where
  hs : s.size ≤ 20000
  hl : lim ≤ 20000
  blk : w.heap[g]? = some (.cells #[.string s, .int .i64 k, o, .int .i64 lim, .int .i64 e] 240 (0, 0))
  own : w.ownsRow (g + 1) 5 1 o out.length (Lib.byteCells out)
  hk : k ≤ 8 * s.size
  ho : out.length ≤ lim
  he : e = 0 ∨ e = 5 ∨ e = 6
section
variable {g : Nat} {s : ByteArray} {lim k : Nat} {o : Value} {out : List UInt8} {e : Nat} {w : World}
theorem Flo.c0 (h : Flo g s lim k o out e w) : w.cell? ⟨g, 0, none⟩ = some (.string s) := cell_of_row w g 0 _ _ _ h.blk
theorem Flo.c1 (h : Flo g s lim k o out e w) : w.cell? ⟨g, 1, none⟩ = some (.int .i64 k) := cell_of_row w g 1 _ _ _ h.blk
theorem Flo.c2 (h : Flo g s lim k o out e w) : w.cell? ⟨g, 2, none⟩ = some o := cell_of_row w g 2 _ _ _ h.blk
theorem Flo.c3 (h : Flo g s lim k o out e w) : w.cell? ⟨g, 3, none⟩ = some (.int .i64 lim) := cell_of_row w g 3 _ _ _ h.blk
theorem Flo.c4 (h : Flo g s lim k o out e w) : w.cell? ⟨g, 4, none⟩ = some (.int .i64 e) := cell_of_row w g 4 _ _ _ h.blk
theorem Flo.free (h : Flo g s lim k o out e w) (j : Nat) : w.frozen? ⟨g, j, none⟩ = false := frozen_of_row w g j _ _ h.blk
theorem Flo.lt (h : Flo g s lim k o out e w) : g < w.heap.size := lt_of_block h.blk
theorem Flo.ownge (h : Flo g s lim k o out e w) {b : Nat} (hb : o.ownBlock = some b) : g + 1 ≤ b := (h.own.lt b hb).1
theorem Flo.drewN (h : Flo g s lim k o out e w) (m : Nat) : Flo g s lim k o out e (w.drewN m) := ⟨h.hs, h.hl, h.blk, h.own, h.hk, h.ho, h.he⟩
theorem Flo.drew (h : Flo g s lim k o out e w) : Flo g s lim k o out e w.drew := ⟨h.hs, h.hl, h.blk, h.own, h.hk, h.ho, h.he⟩
theorem Flo.below {w' : World} (h : Flo g s lim k o out e w) (hb : Below w.heap.size w w') : Flo g s lim k o out e w' :=
  ⟨h.hs, h.hl, (hb.block g h.lt).trans h.blk, own_below h.own hb, h.hk, h.ho, h.he⟩
theorem Flo.alloc (h : Flo g s lim k o out e w) (b : Obj) : Flo g s lim k o out e (w.alloc b) := h.below ((Below.refl _ w).alloc (Nat.le_refl _) b)
/-- the reading goes on -/
theorem Flo.read (h : Flo g s lim k o out e w) (k' : Nat) (hk' : k' ≤ 8 * s.size) {v : Int} (hv : v = (k' : Int)) : Flo g s lim k' o out e (w.setCell ⟨g, 1, none⟩ (.int .i64 v)) := by
  subst hv
  refine ⟨h.hs, h.hl, ?_, ownsRow_setCell_below h.own (by simp) _, hk', h.ho, h.he⟩
  rw [heap_setCell_same _ _ _ _ _ _ h.blk]; rfl
/-- an error -/
theorem Flo.fail (h : Flo g s lim k o out e w) (e' : Nat) (he' : e' = 0 ∨ e' = 5 ∨ e' = 6) {v : Int} (hv : v = (e' : Int)) : Flo g s lim k o out e' (w.setCell ⟨g, 4, none⟩ (.int .i64 v)) := by
  subst hv
  refine ⟨h.hs, h.hl, ?_, ownsRow_setCell_below h.own (by simp) _, h.hk, h.ho, he'⟩
  rw [heap_setCell_same _ _ _ _ _ _ h.blk]; rfl
end
/-- the error behind a fault: the first one stays -/
def orBad (e : Nat) : Nat := if e = 0 then 5 else e
section
variable {g : Nat} {s : ByteArray} {lim k : Nat} {o : Value} {out : List UInt8} {e : Nat}
set_option maxHeartbeats 400000 in
theorem wrong_any (w : World) (h : Flo g s lim k o out e w) :
    Calls Tryz.prog 195 #[.pointer (some ⟨g, 0, none⟩)] w fun r w' => r = .returned (.tuple #[]) ∧ Flo g s lim k o out (orBad e) w' ∧ Step g o o w w' := by
  have h4 := h.c4
  have hf := h.free 4
  go_enter Tryz.func195, Tryz.ntmps195
  by_cases he : e = 0
  · subst he
    go_wp2
    refine bodyPost_end (results_none rfl _ _ _) rfl ⟨rfl, h.fail 5 (by omega) rfl, Step.cell w ⟨g, 4, none⟩ rfl _⟩
  · have hb : orBad e = e := by unfold orBad; rw [if_neg he]
    rw [hb]
    have he' : ((e : Int) == 0) = false := by simp; omega
    go_wp2
    refine bodyPost_end (results_none rfl _ _ _) rfl ⟨rfl, h, Step.refl ..⟩
set_option maxHeartbeats 400000 in
theorem rbit_end (w : World) (h : Flo g s lim k o out e w) (hk : k = 8 * s.size) :
    Calls Tryz.prog 243 #[.pointer (some ⟨g, 0, none⟩)] w fun r w' => r = .returned (.int .i64 0) ∧ Flo g s lim k o out (orBad e) w' ∧ Step g o o w w' := by
  have h0 := h.c0
  have h1 := h.c1
  have hs := h.hs
  have HF : Hid (Flo g s lim k o out e w) := h
  clear h
  go_enter Tryz.func243, Tryz.ntmps243
  go_wp2
  go_quiet (fail)
  go_wp2_with (go_at_call 195; refine (wrong_any _ (HF.out.drewN _)).mono ?_; rintro r w1 ⟨rfl, hf1, st1⟩)
  go_ret
  exact ⟨rfl, hf1, (Step.drewN (Step.refl ..) _).trans st1⟩
set_option maxHeartbeats 400000 in
theorem rbit_ok (w : World) (h : Flo g s lim k o out e w) (hk : k < 8 * s.size) :
    Calls Tryz.prog 243 #[.pointer (some ⟨g, 0, none⟩)] w fun r w' => r = .returned (.int .i64 (bitAt s.data.toList k)) ∧ Flo g s lim (k + 1) o out e w' ∧ Step g o o w w' := by
  have q0 := fun w => idx_str s ((k : Int) / 8) (k / 8) (by omega) (by omega) w
  have h0 := h.c0
  have h1 := h.c1
  have hs := h.hs
  have hff := h.free 1
  have HF : Hid (Flo g s lim k o out e w) := h
  clear h
  go_enter Tryz.func243, Tryz.ntmps243
  go_wp2
  go_quiet (fail)
  go_wp2
  go_quiet (fail)
  go_wp2
  obtain ⟨y, Hy⟩ := hid_intro s[k / 8]
  rw [← Hy.out]
  have hy := y.toNat_lt
  go_loopw [3, 4] (fun vx vi wr => ∃ i : Nat, i ≤ k % 8 ∧ vi = .int .i64 i ∧ vx = .int .i64 ((y.toNat / 2 ^ i : Nat) : Int) ∧ Flo g s lim k o out e wr ∧ Step g o o w wr) (fun _ vi _ => k % 8 - (intOf vi).toNat)
  case atStart => exact ⟨0, by omega, rfl, by rw [wrap64_in' _ (by omega)]; simp, (HF.out.drewN _).drewN _, Step.drewN (Step.drewN (Step.refl ..) _) _⟩
  case round =>
    clear h0 h1 hff HF
    obtain ⟨i, hi, rfl, rfl, hf, st⟩ := hrel
    have c1 := hf.c1
    have cf := hf.free 1
    obtain ⟨q, Hq⟩ := hid_intro (y.toNat / 2 ^ i)
    have hq : q < 256 := by rw [Hq.out]; exact Nat.lt_of_le_of_lt (Nat.div_le_self _ _) (by omega)
    rw [← Hq.out]
    by_cases hlt : i < k % 8
    · have HQ : Hid (y.toNat / 2 ^ (i + 1) = q / 2) := by show _ = _; rw [Hq.out, Nat.div_div_eq_div_mul, Nat.pow_succ]
      have ht : (q : Int).tdiv 2 = ((q / 2 : Nat) : Int) := by rw [Int.tdiv_eq_ediv_of_nonneg (by omega)]; omega
      go_wp2
      go_roundw
      case rel => exact ⟨i + 1, by omega, by go_num, by rw [HQ.out]; simp, hf, st⟩
      case measure => simp [intOf]; omega
    · obtain rfl : i = k % 8 := by omega
      have ht : (q : Int).tmod 2 = ((q % 2 : Nat) : Int) := by rw [Int.tmod_eq_emod_of_nonneg (by omega)]; omega
      have HB : Hid (bitAt s.data.toList k = q % 2) := by show _ = _; unfold bitAt; rw [← byte_at s (k / 8) (by omega), ← Hy.out, Hq.out]
      go_wp2
      go_ret
      exact ⟨ret_int (by rw [HB.out]; omega), hf.read (k + 1) (by omega) (by omega), st.trans (Step.cell _ ⟨g, 1, none⟩ rfl _)⟩
theorem bitAt_end (l : List UInt8) (k : Nat) (h : 8 * l.length ≤ k) : bitAt l k = 0 := by
  unfold bitAt
  have : l.getD (k / 8) 0 = 0 := by simp; rw [List.getElem?_eq_none (by omega)]; rfl
  rw [this]; simp
/-- the error behind n bits -/
def errN (s : ByteArray) (k n e : Nat) : Nat := if k + n ≤ 8 * s.size then e else orBad e
theorem orBad_or (e : Nat) : orBad (orBad e) = orBad e := by unfold orBad; split <;> simp_all
set_option maxHeartbeats 400000 in
theorem rnumber_any (n : Nat) (hn : n ≤ 16) (w : World) (h : Flo g s lim k o out e w) :
    Calls Tryz.prog 194 #[.pointer (some ⟨g, 0, none⟩), .int .i64 n] w fun r w' => r = .returned (.int .i64 (numAt s.data.toList k n)) ∧ Flo g s lim (min (k + n) (8 * s.size)) o out (errN s k n e) w' ∧ Step g o o w w' := by
  go_enter Tryz.func194, Tryz.ntmps194
  go_wp2
  go_loopw [5, 6, 7] (fun vn vp vi wr => ∃ j : Nat, j ≤ n ∧ vi = .int .i64 j ∧ vp = .int .i64 ((2 ^ j : Nat) : Int) ∧ vn = .int .i64 (numAt s.data.toList k j) ∧ Flo g s lim (min (k + j) (8 * s.size)) o out (errN s k j e) wr ∧ Step g o o w wr) (fun _ _ vi _ => n - (intOf vi).toNat)
  case atStart => exact ⟨0, by omega, rfl, rfl, rfl, by have := h.hk; rw [Nat.min_eq_left (by omega)]; unfold errN; rw [if_pos (by omega)]; exact h, Step.refl ..⟩
  case round =>
    have hk0 := h.hk
    clear h
    obtain ⟨j, hj, rfl, rfl, rfl, hf, st⟩ := hrel
    by_cases hlt : j < n
    · have hv := numAt_lt s.data.toList k j
      have hb := bitAt_lt s.data.toList (k + j)
      have HV : Hid (numAt s.data.toList k (j + 1) = numAt s.data.toList k j + 2 ^ j * bitAt s.data.toList (k + j)) := rfl
      have hpw := pow_small j (by omega)
      have HP : Hid (2 ^ (j + 1) = 2 * 2 ^ j) := by show _ = _; rw [Nat.pow_succ]; omega
      obtain ⟨v, Hv⟩ := hid_intro (numAt s.data.toList k j)
      obtain ⟨b, Hb⟩ := hid_intro (bitAt s.data.toList (k + j))
      obtain ⟨p, Hp⟩ := hid_intro (2 ^ j)
      rw [← Hv.out, ← Hb.out, ← Hp.out] at HV
      rw [← Hp.out] at HP hv hpw ⊢
      rw [← Hv.out] at hv ⊢
      rw [← Hb.out] at hb
      obtain ⟨M, HM⟩ := hid_intro (p * b)
      have hM : (p : Int) * (b : Int) = (M : Int) := by rw [HM.out]; simp
      have hM2 : M ≤ p := by rw [HM.out]; have : p * b ≤ p * 1 := Nat.mul_le_mul_left _ (by omega); omega
      rw [← HM.out] at HV
      by_cases hend : k + j < 8 * s.size
      · have e1 : errN s k (j + 1) e = errN s k j e := by unfold errN; rw [if_pos (by omega), if_pos (by omega)]
        have HK : Hid (min (k + j) (8 * s.size) = k + j ∧ min (k + (j + 1)) (8 * s.size) = k + j + 1) := ⟨by omega, by omega⟩
        rw [HK.out.1] at hf
        go_wp2_with (go_at_call 243; refine (rbit_ok wr hf hend).mono ?_; rintro r w1 ⟨rfl, hf1, st1⟩; rw [← Hb.out])
        go_roundw
        case rel => exact ⟨j + 1, by omega, by go_num, by rw [HP.out]; simp, by rw [HV.out]; simp, by rw [HK.out.2, e1]; exact hf1, st.trans st1⟩
        case measure => simp [intOf]; omega
      · have hb0 : b = 0 := by rw [Hb.out]; exact bitAt_end _ _ (by simp; omega)
        subst hb0
        have e1 : errN s k (j + 1) e = orBad (errN s k j e) := by
          unfold errN
          rw [if_neg (by omega)]
          split
          · rfl
          · rw [orBad_or]
        have HK : Hid (min (k + j) (8 * s.size) = 8 * s.size ∧ min (k + (j + 1)) (8 * s.size) = 8 * s.size) := ⟨by omega, by omega⟩
        rw [HK.out.1] at hf
        go_wp2_with (go_at_call 243; refine (rbit_end wr hf rfl).mono ?_; rintro r w1 ⟨rfl, hf1, st1⟩)
        go_roundw
        case rel => exact ⟨j + 1, by omega, by go_num, by rw [HP.out]; simp, by rw [HV.out, HM.out]; simp, by rw [HK.out.2, e1]; exact hf1, st.trans st1⟩
        case measure => simp [intOf]; omega
    · obtain rfl : j = n := by omega
      go_wp2
      go_ret
      exact ⟨rfl, hf, st⟩
end
end Go.Proofs.YtgfbbcnnmoamnaaGreatDoor

namespace Go.Proofs.YtgfbbcnnmoamnaaGreatDoor
open Go.RowKit

section
variable {g : Nat} {s : ByteArray} {lim k : Nat} {o : Value} {out : List UInt8} {e : Nat}
/-- behind an append, ahead of the store -/
theorem Flo.grown {w w2 w3 : World} {H g2 cap2 : Nat} {x : UInt8} (h : Flo g s lim k o out e w) (hb : Below w.heap.size w w2) (hg3 : w2.grownBy w3 o.ownBlock) (hat : o.ownBlock = some g2 ∨ g2 = H) (hH : w.heap.size ≤ H)
    (hown : w3.ownsRow (g + 1) 5 1 (.slice (some ⟨g2, 0, none⟩) (out.length + 1) cap2) (out.length + 1) (Lib.byteCells out ++ [.int .u8 (x.toNat : Int)])) (hl : ¬ out.length ≥ lim) :
    w3.cell? ⟨g, 2, none⟩ = some o ∧ w3.frozen? ⟨g, 2, none⟩ = false ∧ Flo g s lim k (.slice (some ⟨g2, 0, none⟩) (out.length + 1) cap2) (out ++ [x]) e (w3.setCell ⟨g, 2, none⟩ (.slice (some ⟨g2, 0, none⟩) (out.length + 1) cap2)) ∧
      Step g o (.slice (some ⟨g2, 0, none⟩) (out.length + 1) cap2) w (w3.setCell ⟨g, 2, none⟩ (.slice (some ⟨g2, 0, none⟩) (out.length + 1) cap2)) := by
  have hlt := h.lt
  have hne : o.ownBlock ≠ some g := fun e => by have := h.ownge e; omega
  have st : Step g o (.slice (some ⟨g2, 0, none⟩) (out.length + 1) cap2) w w3 := by
    refine ⟨hg3.os.trans hb.os, hg3.tape.trans hb.tape, hg3.output.trans hb.output, Nat.le_trans hb.size hg3.size, fun j hj _ ho => (hg3.block j (Nat.lt_of_lt_of_le hj hb.size) fun e => ho e.symm).trans (hb.block j hj), fun j hj => ?_⟩
    have e : g2 = j := by simpa [Value.ownBlock] using hj
    rcases hat with h1 | h1
    · exact .inl (e ▸ h1)
    · exact .inr (by omega)
  have hblk : w3.heap[g]? = some (.cells #[.string s, .int .i64 k, o, .int .i64 lim, .int .i64 e] 240 (0, 0)) :=
    (hg3.block g (Nat.lt_of_lt_of_le hlt hb.size) fun e => hne e.symm).trans ((hb.block g hlt).trans h.blk)
  have st2 := st.trans (Step.cell w3 ⟨g, 2, none⟩ rfl (.slice (some ⟨g2, 0, none⟩) (out.length + 1) cap2))
  refine ⟨cell_of_row w3 g 2 _ _ _ hblk, frozen_of_row w3 g 2 _ _ hblk, ⟨h.hs, h.hl, ?_, ?_, h.hk, by simp; omega, h.he⟩, st2⟩
  · rw [heap_setCell_same _ _ _ _ _ _ hblk]; rfl
  · have e : Lib.byteCells (out ++ [x]) = Lib.byteCells out ++ [.int .u8 (x.toNat : Int)] := by simp [Lib.byteCells]
    have e2 : (out ++ [x]).length = out.length + 1 := by simp
    rw [e, e2]
    exact ownsRow_setCell_below hown (by simp) _
set_option maxHeartbeats 400000 in
theorem comes_bad {v : Int} (w : World) (h : Flo g s lim k o out e w) (he : e ≠ 0) :
    Calls Tryz.prog 196 #[.pointer (some ⟨g, 0, none⟩), .int .u8 v] w fun r w' => r = .returned (.tuple #[]) ∧ Flo g s lim k o out e w' ∧ Step g o o w w' := by
  have h4 := h.c4
  have he' : ((e : Int) != 0) = true := by simp; omega
  go_enter Tryz.func196, Tryz.ntmps196
  go_wp2
  refine bodyPost_ret (results_none rfl _ _ _) rfl ⟨rfl, h, Step.refl ..⟩
set_option maxHeartbeats 400000 in
theorem comes_full {v : Int} (w : World) (h : Flo g s lim k o out 0 w) (hl : out.length ≥ lim) :
    Calls Tryz.prog 196 #[.pointer (some ⟨g, 0, none⟩), .int .u8 v] w fun r w' => r = .returned (.tuple #[]) ∧ Flo g s lim k o out 6 w' ∧ Step g o o w w' := by
  have h2 := h.c2
  have h3 := h.c3
  have h4 := h.c4
  have hf := h.free 4
  obtain ⟨ao, cap, rfl⟩ := own_shape h.own
  go_enter Tryz.func196, Tryz.ntmps196
  go_wp2
  go_quiet (fail)
  go_wp2
  refine bodyPost_ret (results_none rfl _ _ _) rfl ⟨rfl, (h.drewN _).fail 6 (by omega) rfl, (Step.drewN (Step.refl ..) _).trans (Step.cell _ ⟨g, 4, none⟩ rfl _)⟩
set_option maxHeartbeats 400000 in
theorem comes_ok {v : Int} (x : UInt8) (hv : v = (x.toNat : Int)) (w : World) (h : Flo g s lim k o out 0 w) (hl : ¬ out.length ≥ lim) :
    Calls Tryz.prog 196 #[.pointer (some ⟨g, 0, none⟩), .int .u8 v] w fun r w' => r = .returned (.tuple #[]) ∧ ∃ o', Flo g s lim k o' (out ++ [x]) 0 w' ∧ Step g o o' w w' := by
  subst hv
  have h2 := h.c2
  have h3 := h.c3
  have h4 := h.c4
  obtain ⟨ao, cap, rfl⟩ := own_shape h.own
  obtain ⟨i0, hi0, hz0, hz1, hz2⟩ := info_parts infoU8
  have HN : Hid (out.length ≤ 20000 ∧ g < w.heap.size) := ⟨by have := h.ho; have := h.hl; omega, h.lt⟩
  have HO : Hid (w.ownsRow (g + 1) 5 1 (Value.slice ao out.length cap) out.length (Lib.byteCells out)) := h.own
  have HI : Hid (Flo g s lim k (Value.slice ao out.length cap) out 0 w) := h
  clear h
  go_enter Tryz.func196, Tryz.ntmps196
  go_wp2
  go_quiet (fail)
  go_wp2_with (at_builtin; refine wpList_append_lies _ rfl _ _ 66 rfl (g + 1) 5 i0 (.int .u8 0) 1 1 Tryz.underlying66 hi0 hz0 hz1 hz2 rfl (by decide) _ out.length _ rfl (World.ownsRow.alloc (show (w.drewN nq).ownsRow _ _ _ _ _ _ from HO.out) _) ⟨w.heap.size, 0, none⟩ 1 1 [.int .u8 (x.toNat : Int)] rfl rfl (cell_one_new _ _ _) (by simp [Value.oneCell']) (by decide) (by have := HN.out; unfold maxLen; omega) (by have := HN.out; omega) (by have := HN.out; simp; omega) (w.heap.size + 1) (by simp) ?_; intro g2 cap2 w3 hown3 hg3 hat _; obtain ⟨hc, hff, hres⟩ := Flo.grown HI.out ((below_drewN (Below.refl _ w) nq).alloc (Nat.le_refl _) _) hg3 hat (by omega) hown3 hl; have HR := (show Hid _ from hres); clear hown3 hg3 hat hres)
  refine bodyPost_end (results_none rfl _ _ _) rfl ⟨rfl, _, HR.out.1, HR.out.2⟩
end
/-- the document's lengths and distances, as they are reckoned -/
def lsum (st b : Nat) : Nat → Nat
  | 0 => b
  | i + 1 => lsum st b i + 2 ^ (i / st - 1)
theorem lsum_le (st b : Nat) : ∀ i, i ≤ 30 → lsum st b i ≤ b + i * 1073741824
  | 0, _ => by simp [lsum]
  | i + 1, h => by
    have ih := lsum_le st b i (by omega)
    have : (2:Nat) ^ (i / st - 1) ≤ 2 ^ 30 := Nat.pow_le_pow_right (by omega) (by have := Nat.div_le_self i st; omega)
    simp only [lsum]; omega
theorem lsum_len (x : Nat) (h : x < 28) : lsum 4 3 x = (lenSpan x).1 ∧ (lenSpan x).2 = x / 4 - 1 := by
  have : ∀ x, x < 28 → lsum 4 3 x = (lenSpan x).1 ∧ (lenSpan x).2 = x / 4 - 1 := by decide +kernel
  exact this x h
theorem lsum_dist (x : Nat) (h : x ≤ 29) : lsum 2 1 x = (distSpan x).1 ∧ (distSpan x).2 = x / 2 - 1 := by
  have : ∀ x, x < 30 → lsum 2 1 x = (distSpan x).1 ∧ (distSpan x).2 = x / 2 - 1 := by decide +kernel
  exact this x (by omega)
theorem ret_pair2 {a b a' b' : Int} (ha : a = a') (hb : b = b') : Ending.returned (.tuple #[.int .i64 a, .int .i64 b]) = .returned (.tuple #[.int .i64 a', .int .i64 b']) := by rw [ha, hb]
set_option maxHeartbeats 400000 in
theorem rlength_any (x : Nat) (hx : x ≤ 28) (w : World) :
    Calls Tryz.prog 298 #[.int .i64 x] w fun r w' => r = .returned (.tuple #[.int .i64 ((lenSpan x).1 : Nat), .int .i64 ((lenSpan x).2 : Nat)]) ∧ w' = w := by
  go_enter Tryz.func298, Tryz.ntmps298
  by_cases h28 : x = 28
  · subst h28
    go_wp2
    go_ret2
    exact ⟨rfl, rfl⟩
  · go_wp2
    go_loopw [4, 5] (fun vl vi wr => ∃ i : Nat, i ≤ x ∧ vi = .int .i64 i ∧ vl = .int .i64 (lsum 4 3 i) ∧ wr = w) (fun _ vi _ => x - (intOf vi).toNat)
    case atStart => exact ⟨0, by omega, rfl, rfl, rfl⟩
    case round =>
      obtain ⟨i, hi, rfl, rfl, rfl⟩ := hrel
      have hls := lsum_le 4 3 i (by omega)
      have HL : Hid (lsum 4 3 (i + 1) = lsum 4 3 i + 2 ^ (i / 4 - 1)) := rfl
      obtain ⟨L, HLL⟩ := hid_intro (lsum 4 3 i)
      rw [← HLL.out] at hls HL ⊢
      by_cases hlt : i < x
      · go_wp2
        go_loopw [6, 7] (fun vp vk wx => ∃ c : Nat, c ≤ i / 4 - 1 ∧ vk = .int .i64 ((4 + 4 * c : Nat) : Int) ∧ vp = .int .i64 ((2 ^ c : Nat) : Int) ∧ wx = wr) (fun _ vk _ => 100 - (intOf vk).toNat)
        case atStart => exact ⟨0, by omega, rfl, rfl, rfl⟩
        case round =>
          obtain ⟨c, hc, rfl, rfl, rfl⟩ := hrel
          have hpw := pow_small c (by omega)
          have HP : Hid (2 ^ (c + 1) = 2 * 2 ^ c) := by show _ = _; rw [Nat.pow_succ]; omega
          by_cases hcl : c < i / 4 - 1
          · obtain ⟨p, Hp⟩ := hid_intro (2 ^ c)
            rw [← Hp.out] at HP hpw ⊢
            go_wp2
            go_roundw
            case rel => exact ⟨c + 1, by omega, by go_num, by rw [HP.out]; simp, by first | rfl | trivial⟩
            case measure => simp [intOf]; omega
          · obtain rfl : c = i / 4 - 1 := by omega
            obtain ⟨p, Hp⟩ := hid_intro (2 ^ (i / 4 - 1))
            rw [← Hp.out] at hpw HL ⊢
            go_wp2
            go_roundw
            case rel => exact ⟨i + 1, by omega, by go_num, by rw [HL.out]; simp, by first | rfl | trivial⟩
            case measure => simp [intOf]; omega
      · obtain rfl : i = x := by omega
        have HS := (show Hid _ from lsum_len i (by omega))
        by_cases h8 : i ≥ 8
        · go_wp2
          go_ret2
          exact ⟨ret_pair2 (by rw [HLL.out, HS.out.1]) (by rw [HS.out.2]; omega), rfl⟩
        · go_wp2
          go_ret2
          exact ⟨ret_pair2 (by rw [HLL.out, HS.out.1]) (by rw [HS.out.2]; omega), rfl⟩
set_option maxHeartbeats 400000 in
theorem rdistance_any (x : Nat) (hx : x ≤ 29) (w : World) :
    Calls Tryz.prog 299 #[.int .i64 x] w fun r w' => r = .returned (.tuple #[.int .i64 ((distSpan x).1 : Nat), .int .i64 ((distSpan x).2 : Nat)]) ∧ w' = w := by
  go_enter Tryz.func299, Tryz.ntmps299
  go_wp2
  go_loopw [4, 5] (fun vl vi wr => ∃ i : Nat, i ≤ x ∧ vi = .int .i64 i ∧ vl = .int .i64 (lsum 2 1 i) ∧ wr = w) (fun _ vi _ => x - (intOf vi).toNat)
  case atStart => exact ⟨0, by omega, rfl, rfl, rfl⟩
  case round =>
    obtain ⟨i, hi, rfl, rfl, rfl⟩ := hrel
    have hls := lsum_le 2 1 i (by omega)
    have HL : Hid (lsum 2 1 (i + 1) = lsum 2 1 i + 2 ^ (i / 2 - 1)) := rfl
    obtain ⟨L, HLL⟩ := hid_intro (lsum 2 1 i)
    rw [← HLL.out] at hls HL ⊢
    by_cases hlt : i < x
    · go_wp2
      go_loopw [6, 7] (fun vp vk wx => ∃ c : Nat, c ≤ i / 2 - 1 ∧ vk = .int .i64 ((2 + 2 * c : Nat) : Int) ∧ vp = .int .i64 ((2 ^ c : Nat) : Int) ∧ wx = wr) (fun _ vk _ => 100 - (intOf vk).toNat)
      case atStart => exact ⟨0, by omega, rfl, rfl, rfl⟩
      case round =>
        obtain ⟨c, hc, rfl, rfl, rfl⟩ := hrel
        have hpw := pow_small c (by omega)
        have HP : Hid (2 ^ (c + 1) = 2 * 2 ^ c) := by show _ = _; rw [Nat.pow_succ]; omega
        by_cases hcl : c < i / 2 - 1
        · obtain ⟨p, Hp⟩ := hid_intro (2 ^ c)
          rw [← Hp.out] at HP hpw ⊢
          go_wp2
          go_roundw
          case rel => exact ⟨c + 1, by omega, by go_num, by rw [HP.out]; simp, by first | rfl | trivial⟩
          case measure => simp [intOf]; omega
        · obtain rfl : c = i / 2 - 1 := by omega
          obtain ⟨p, Hp⟩ := hid_intro (2 ^ (i / 2 - 1))
          rw [← Hp.out] at hpw HL ⊢
          go_wp2
          go_roundw
          case rel => exact ⟨i + 1, by omega, by go_num, by rw [HL.out]; simp, by first | rfl | trivial⟩
          case measure => simp [intOf]; omega
    · obtain rfl : i = x := by omega
      have HS := (show Hid _ from lsum_dist i hx)
      by_cases h8 : i ≥ 4
      · go_wp2
        go_ret2
        exact ⟨ret_pair2 (by rw [HLL.out, HS.out.1]) (by rw [HS.out.2]; omega), rfl⟩
      · go_wp2
        go_ret2
        exact ⟨ret_pair2 (by rw [HLL.out, HS.out.1]) (by rw [HS.out.2]; omega), rfl⟩
end Go.Proofs.YtgfbbcnnmoamnaaGreatDoor

namespace Go.Proofs.YtgfbbcnnmoamnaaGreatDoor
open Go.RowKit

theorem cat_zero (l : List UInt8) : (⟨#[48, 49]⟩ : ByteArray).extract 0 1 ++ ⟨l.toArray⟩ = ⟨(dig 0 :: l).toArray⟩ := by
  apply ByteArray.ext
  simp [dig]
theorem cat_one (l : List UInt8) : (⟨#[48, 49]⟩ : ByteArray).extract 1 2 ++ ⟨l.toArray⟩ = ⟨(dig 1 :: l).toArray⟩ := by
  apply ByteArray.ext
  simp [dig]
set_option maxHeartbeats 400000 in
set_option maxRecDepth 8000 in
theorem rbinary_any (n bits : Nat) (hn : n < 1000000000) (hb : bits ≤ 15) (w : World) :
    Calls Tryz.prog 247 #[.int .i64 n, .int .i64 bits] w fun r w' => r = .returned (.string ⟨(digs n bits).toArray⟩) ∧ w' = w := by
  go_enter Tryz.func247, Tryz.ntmps247
  go_wp2
  go_loopw [0, 5, 6] (fun vn vs vi wr => ∃ i : Nat, i ≤ bits ∧ vn = .int .i64 ((n / 2 ^ i : Nat) : Int) ∧ vs = .string ⟨(digs n i).toArray⟩ ∧ vi = .int .i64 i ∧ wr = w) (fun _ _ vi _ => bits - (intOf vi).toNat)
  case atStart => exact ⟨0, by omega, by simp, rfl, rfl, rfl⟩
  case round =>
    obtain ⟨i, hi, rfl, rfl, rfl, rfl⟩ := hrel
    have hle : n / 2 ^ i ≤ n := Nat.div_le_self ..
    have HD : Hid (digs n (i + 1) = dig (n / 2 ^ i % 2) :: digs n i) := rfl
    have HN : Hid (n / 2 ^ (i + 1) = n / 2 ^ i / 2) := by show _ = _; rw [Nat.pow_succ, Nat.div_div_eq_div_mul]
    obtain ⟨m, HM⟩ := hid_intro (n / 2 ^ i)
    rw [← HM.out] at hle HD HN ⊢
    have hll := digs_len n i
    obtain ⟨l, HL⟩ := hid_intro (digs n i)
    rw [← HL.out] at HD hll ⊢
    by_cases hlt : i < bits
    · rcases (by omega : (m : Int) % 2 = 0 ∨ (m : Int) % 2 = 1) with h0 | h0
      · go_wp2
        go_roundw
        case rel => exact ⟨i + 1, by omega, by rw [HN.out]; go_num, by rw [HD.out, show m % 2 = 0 by omega]; exact congrArg Value.string (cat_zero l), by go_num, by first | rfl | trivial⟩
        case measure => simp [intOf]; omega
      · go_wp2
        go_roundw
        case rel => exact ⟨i + 1, by omega, by rw [HN.out]; go_num, by rw [HD.out, show m % 2 = 1 by omega]; exact congrArg Value.string (cat_one l), by go_num, by first | rfl | trivial⟩
        case measure => simp [intOf]; omega
    · obtain rfl : i = bits := by omega
      go_wp2
      go_ret
      exact ⟨by rw [HL.out]; rfl, rfl⟩
end Go.Proofs.YtgfbbcnnmoamnaaGreatDoor
