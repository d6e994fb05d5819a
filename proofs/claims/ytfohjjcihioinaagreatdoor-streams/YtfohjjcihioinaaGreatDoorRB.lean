/- The document's bytes that come out. -/
import Derived.Test.YtfohjjcihioinaaGreatDoorRA
namespace Go.Proofs.YtfohjjcihioinaaGreatDoor
open Go.RowKit

section
variable {g : Nat} {s : ByteArray} {lim k : Nat} {o : Value} {out : List UInt8} {e : Nat}
/-- behind an append, ahead of the store -/
theorem Flo.grown {w w2 w3 : World} {H g2 cap2 : Nat} {x : UInt8} (h : Flo g s lim k o out e w) (hb : Below w.heap.size w w2) (hg3 : w2.grownBy w3 o.ownBlock) (hat : o.ownBlock = some g2 ∨ g2 = H) (hH : w.heap.size ≤ H)
    (hown : w3.ownsRow (g + 1) 5 1 (.slice (some ⟨g2, 0, none⟩) (out.length + 1) cap2) (out.length + 1) (Lib.byteCells out ++ [.int .u8 (x.toNat : Int)])) (hl : ¬ out.length ≥ lim) :
    w3.cell? ⟨g, 2, none⟩ = some o ∧ w3.frozen? ⟨g, 2, none⟩ = false ∧ Flo g s lim k (.slice (some ⟨g2, 0, none⟩) (out.length + 1) cap2) (out ++ [x]) e (w3.setCell ⟨g, 2, none⟩ (.slice (some ⟨g2, 0, none⟩) (out.length + 1) cap2)) ∧
      Step g o (.slice (some ⟨g2, 0, none⟩) (out.length + 1) cap2) w (w3.setCell ⟨g, 2, none⟩ (.slice (some ⟨g2, 0, none⟩) (out.length + 1) cap2)) := by
  have hlt := h.lt
  have hne : o.ownBlock ≠ some g := fun e => by have := h.ownge e; omega
  have st : Step g o (.slice (some ⟨g2, 0, none⟩) (out.length + 1) cap2) w w3 := by
    refine ⟨hg3.os.trans hb.os, hg3.tape.trans hb.tape, hg3.output.trans hb.output, Nat.le_trans hb.size hg3.size, fun j hj _ ho => (hg3.block j (Nat.lt_of_lt_of_le hj hb.size) fun e => ho e.symm).trans (hb.block j hj), fun j hj => ?_⟩
    have e : g2 = j := by simpa [Value.ownBlock] using hj
    rcases hat with h1 | h1
    · exact .inl (e ▸ h1)
    · exact .inr (by omega)
  have hblk : w3.heap[g]? = some (.cells #[.string s, .int .i64 k, o, .int .i64 lim, .int .i64 e] 77 (0, 0)) :=
    (hg3.block g (Nat.lt_of_lt_of_le hlt hb.size) fun e => hne e.symm).trans ((hb.block g hlt).trans h.blk)
  have st2 := st.trans (Step.cell w3 ⟨g, 2, none⟩ rfl (.slice (some ⟨g2, 0, none⟩) (out.length + 1) cap2))
  refine ⟨cell_of_row w3 g 2 _ _ _ hblk, frozen_of_row w3 g 2 _ _ hblk, ⟨h.hs, h.hl, ?_, ?_, h.hk, by simp; omega, h.he⟩, st2⟩
  · rw [heap_setCell_same _ _ _ _ _ _ hblk]; rfl
  · have e : Lib.byteCells (out ++ [x]) = Lib.byteCells out ++ [.int .u8 (x.toNat : Int)] := by simp [Lib.byteCells]
    have e2 : (out ++ [x]).length = out.length + 1 := by simp
    rw [e, e2]
    exact ownsRow_setCell_below hown (by simp) _
set_option maxHeartbeats 400000 in
theorem comes_bad {v : Int} (w : World) (h : Flo g s lim k o out e w) (he : e ≠ 0) :
    Calls Tryz.prog 53 #[.pointer (some ⟨g, 0, none⟩), .int .u8 v] w fun r w' => r = .returned (.tuple #[]) ∧ Flo g s lim k o out e w' ∧ Step g o o w w' := by
  have h4 := h.c4
  have he' : ((e : Int) != 0) = true := by simp; omega
  go_enter Tryz.func53, Tryz.ntmps53
  go_wp2
  refine bodyPost_ret (results_none rfl _ _ _) rfl ⟨rfl, h, Step.refl ..⟩
set_option maxHeartbeats 400000 in
theorem comes_full {v : Int} (w : World) (h : Flo g s lim k o out 0 w) (hl : out.length ≥ lim) :
    Calls Tryz.prog 53 #[.pointer (some ⟨g, 0, none⟩), .int .u8 v] w fun r w' => r = .returned (.tuple #[]) ∧ Flo g s lim k o out 6 w' ∧ Step g o o w w' := by
  have h2 := h.c2
  have h3 := h.c3
  have h4 := h.c4
  have hf := h.free 4
  obtain ⟨ao, cap, rfl⟩ := own_shape h.own
  go_enter Tryz.func53, Tryz.ntmps53
  go_wp2
  go_quiet (fail)
  go_wp2
  refine bodyPost_ret (results_none rfl _ _ _) rfl ⟨rfl, (h.drewN _).fail 6 (by omega) rfl, (Step.drewN (Step.refl ..) _).trans (Step.cell _ ⟨g, 4, none⟩ rfl _)⟩
set_option maxHeartbeats 400000 in
theorem comes_ok {v : Int} (x : UInt8) (hv : v = (x.toNat : Int)) (w : World) (h : Flo g s lim k o out 0 w) (hl : ¬ out.length ≥ lim) :
    Calls Tryz.prog 53 #[.pointer (some ⟨g, 0, none⟩), .int .u8 v] w fun r w' => r = .returned (.tuple #[]) ∧ ∃ o', Flo g s lim k o' (out ++ [x]) 0 w' ∧ Step g o o' w w' := by
  subst hv
  have h2 := h.c2
  have h3 := h.c3
  have h4 := h.c4
  obtain ⟨ao, cap, rfl⟩ := own_shape h.own
  obtain ⟨i0, hi0, hz0, hz1, hz2⟩ := info_parts infoU8
  have HN : Hid (out.length ≤ 20000 ∧ g < w.heap.size) := ⟨by have := h.ho; have := h.hl; omega, h.lt⟩
  have HO : Hid (w.ownsRow (g + 1) 5 1 (Value.slice ao out.length cap) out.length (Lib.byteCells out)) := h.own
  have HI : Hid (Flo g s lim k (Value.slice ao out.length cap) out 0 w) := h
  clear h
  go_enter Tryz.func53, Tryz.ntmps53
  go_wp2
  go_quiet (fail)
  go_wp2_with (at_builtin; refine wpList_append_lies _ rfl _ _ 75 rfl (g + 1) 5 i0 (.int .u8 0) 1 1 Tryz.underlying75 hi0 hz0 hz1 hz2 rfl (by decide) _ out.length _ rfl (World.ownsRow.alloc (show (w.drewN nq).ownsRow _ _ _ _ _ _ from HO.out) _) ⟨w.heap.size, 0, none⟩ 1 1 [.int .u8 (x.toNat : Int)] rfl rfl (cell_one_new _ _ _) (by simp [Value.oneCell']) (by decide) (by have := HN.out; unfold maxLen; omega) (by have := HN.out; omega) (by have := HN.out; simp; omega) (w.heap.size + 1) (by simp) ?_; intro g2 cap2 w3 hown3 hg3 hat _; obtain ⟨hc, hff, hres⟩ := Flo.grown HI.out ((below_drewN (Below.refl _ w) nq).alloc (Nat.le_refl _) _) hg3 hat (by omega) hown3 hl; have HR := (show Hid _ from hres); clear hown3 hg3 hat hres)
  refine bodyPost_end (results_none rfl _ _ _) rfl ⟨rfl, _, HR.out.1, HR.out.2⟩
end
/-- the document's lengths and distances, as they are reckoned -/
def lsum (st b : Nat) : Nat → Nat
  | 0 => b
  | i + 1 => lsum st b i + 2 ^ (i / st - 1)
theorem lsum_le (st b : Nat) : ∀ i, i ≤ 30 → lsum st b i ≤ b + i * 1073741824
  | 0, _ => by simp [lsum]
  | i + 1, h => by
    have ih := lsum_le st b i (by omega)
    have : (2:Nat) ^ (i / st - 1) ≤ 2 ^ 30 := Nat.pow_le_pow_right (by omega) (by have := Nat.div_le_self i st; omega)
    simp only [lsum]; omega
theorem lsum_len (x : Nat) (h : x < 28) : lsum 4 3 x = (lenSpan x).1 ∧ (lenSpan x).2 = x / 4 - 1 := by
  have : ∀ x, x < 28 → lsum 4 3 x = (lenSpan x).1 ∧ (lenSpan x).2 = x / 4 - 1 := by decide +kernel
  exact this x h
theorem lsum_dist (x : Nat) (h : x ≤ 29) : lsum 2 1 x = (distSpan x).1 ∧ (distSpan x).2 = x / 2 - 1 := by
  have : ∀ x, x < 30 → lsum 2 1 x = (distSpan x).1 ∧ (distSpan x).2 = x / 2 - 1 := by decide +kernel
  exact this x (by omega)
theorem ret_pair2 {a b a' b' : Int} (ha : a = a') (hb : b = b') : Ending.returned (.tuple #[.int .i64 a, .int .i64 b]) = .returned (.tuple #[.int .i64 a', .int .i64 b']) := by rw [ha, hb]
set_option maxHeartbeats 400000 in
theorem rlength_any (x : Nat) (hx : x ≤ 28) (w : World) :
    Calls Tryz.prog 180 #[.int .i64 x] w fun r w' => r = .returned (.tuple #[.int .i64 ((lenSpan x).1 : Nat), .int .i64 ((lenSpan x).2 : Nat)]) ∧ w' = w := by
  go_enter Tryz.func180, Tryz.ntmps180
  by_cases h28 : x = 28
  · subst h28
    go_wp2
    go_ret2
    exact ⟨rfl, rfl⟩
  · go_wp2
    go_loopw [4, 5] (fun vl vi wr => ∃ i : Nat, i ≤ x ∧ vi = .int .i64 i ∧ vl = .int .i64 (lsum 4 3 i) ∧ wr = w) (fun _ vi _ => x - (intOf vi).toNat)
    case atStart => exact ⟨0, by omega, rfl, rfl, rfl⟩
    case round =>
      obtain ⟨i, hi, rfl, rfl, rfl⟩ := hrel
      have hls := lsum_le 4 3 i (by omega)
      have HL : Hid (lsum 4 3 (i + 1) = lsum 4 3 i + 2 ^ (i / 4 - 1)) := rfl
      obtain ⟨L, HLL⟩ := hid_intro (lsum 4 3 i)
      rw [← HLL.out] at hls HL ⊢
      by_cases hlt : i < x
      · go_wp2
        go_loopw [6, 7] (fun vp vk wx => ∃ c : Nat, c ≤ i / 4 - 1 ∧ vk = .int .i64 ((4 + 4 * c : Nat) : Int) ∧ vp = .int .i64 ((2 ^ c : Nat) : Int) ∧ wx = wr) (fun _ vk _ => 100 - (intOf vk).toNat)
        case atStart => exact ⟨0, by omega, rfl, rfl, rfl⟩
        case round =>
          obtain ⟨c, hc, rfl, rfl, rfl⟩ := hrel
          have hpw := pow_small c (by omega)
          have HP : Hid (2 ^ (c + 1) = 2 * 2 ^ c) := by show _ = _; rw [Nat.pow_succ]; omega
          by_cases hcl : c < i / 4 - 1
          · obtain ⟨p, Hp⟩ := hid_intro (2 ^ c)
            rw [← Hp.out] at HP hpw ⊢
            go_wp2
            go_roundw
            case rel => exact ⟨c + 1, by omega, by go_num, by rw [HP.out]; simp, by first | rfl | trivial⟩
            case measure => simp [intOf]; omega
          · obtain rfl : c = i / 4 - 1 := by omega
            obtain ⟨p, Hp⟩ := hid_intro (2 ^ (i / 4 - 1))
            rw [← Hp.out] at hpw HL ⊢
            go_wp2
            go_roundw
            case rel => exact ⟨i + 1, by omega, by go_num, by rw [HL.out]; simp, by first | rfl | trivial⟩
            case measure => simp [intOf]; omega
      · obtain rfl : i = x := by omega
        have HS := (show Hid _ from lsum_len i (by omega))
        by_cases h8 : i ≥ 8
        · go_wp2
          go_ret2
          exact ⟨ret_pair2 (by rw [HLL.out, HS.out.1]) (by rw [HS.out.2]; omega), rfl⟩
        · go_wp2
          go_ret2
          exact ⟨ret_pair2 (by rw [HLL.out, HS.out.1]) (by rw [HS.out.2]; omega), rfl⟩
set_option maxHeartbeats 400000 in
theorem rdistance_any (x : Nat) (hx : x ≤ 29) (w : World) :
    Calls Tryz.prog 181 #[.int .i64 x] w fun r w' => r = .returned (.tuple #[.int .i64 ((distSpan x).1 : Nat), .int .i64 ((distSpan x).2 : Nat)]) ∧ w' = w := by
  go_enter Tryz.func181, Tryz.ntmps181
  go_wp2
  go_loopw [4, 5] (fun vl vi wr => ∃ i : Nat, i ≤ x ∧ vi = .int .i64 i ∧ vl = .int .i64 (lsum 2 1 i) ∧ wr = w) (fun _ vi _ => x - (intOf vi).toNat)
  case atStart => exact ⟨0, by omega, rfl, rfl, rfl⟩
  case round =>
    obtain ⟨i, hi, rfl, rfl, rfl⟩ := hrel
    have hls := lsum_le 2 1 i (by omega)
    have HL : Hid (lsum 2 1 (i + 1) = lsum 2 1 i + 2 ^ (i / 2 - 1)) := rfl
    obtain ⟨L, HLL⟩ := hid_intro (lsum 2 1 i)
    rw [← HLL.out] at hls HL ⊢
    by_cases hlt : i < x
    · go_wp2
      go_loopw [6, 7] (fun vp vk wx => ∃ c : Nat, c ≤ i / 2 - 1 ∧ vk = .int .i64 ((2 + 2 * c : Nat) : Int) ∧ vp = .int .i64 ((2 ^ c : Nat) : Int) ∧ wx = wr) (fun _ vk _ => 100 - (intOf vk).toNat)
      case atStart => exact ⟨0, by omega, rfl, rfl, rfl⟩
      case round =>
        obtain ⟨c, hc, rfl, rfl, rfl⟩ := hrel
        have hpw := pow_small c (by omega)
        have HP : Hid (2 ^ (c + 1) = 2 * 2 ^ c) := by show _ = _; rw [Nat.pow_succ]; omega
        by_cases hcl : c < i / 2 - 1
        · obtain ⟨p, Hp⟩ := hid_intro (2 ^ c)
          rw [← Hp.out] at HP hpw ⊢
          go_wp2
          go_roundw
          case rel => exact ⟨c + 1, by omega, by go_num, by rw [HP.out]; simp, by first | rfl | trivial⟩
          case measure => simp [intOf]; omega
        · obtain rfl : c = i / 2 - 1 := by omega
          obtain ⟨p, Hp⟩ := hid_intro (2 ^ (i / 2 - 1))
          rw [← Hp.out] at hpw HL ⊢
          go_wp2
          go_roundw
          case rel => exact ⟨i + 1, by omega, by go_num, by rw [HL.out]; simp, by first | rfl | trivial⟩
          case measure => simp [intOf]; omega
    · obtain rfl : i = x := by omega
      have HS := (show Hid _ from lsum_dist i hx)
      by_cases h8 : i ≥ 4
      · go_wp2
        go_ret2
        exact ⟨ret_pair2 (by rw [HLL.out, HS.out.1]) (by rw [HS.out.2]; omega), rfl⟩
      · go_wp2
        go_ret2
        exact ⟨ret_pair2 (by rw [HLL.out, HS.out.1]) (by rw [HS.out.2]; omega), rfl⟩
end Go.Proofs.YtfohjjcihioinaaGreatDoor
