/- What the document's roots are. -/
import Derived.Test.YteiolcongejhgaaDoorRefB
namespace Go.Proofs.YteiolcongejhgaaDoor
open Go.RowKit

theorem parts_l (n : Nat) (r : List Nat) (hr : Hid (r = partsF n)) (hn : n < 18446744073709551616) (w : World) :
    Calls Tryd.prog 38 #[.int .u64 n] w fun en w' => en = .returned (.slice (some ⟨w.heap.size, 0, none⟩) 4 4) ∧ w' = w.alloc (.cells (rowu r) 49 (0, 0)) := by
  rw [hr.out]; exact parts_any n hn w
theorem times_l (a b c : List Nat) (la lb ga gb : Nat) (hc : Hid (c = timesF a b)) (hla : la = a.length) (hlb : lb = b.length) (w : World) (ha : la ≤ 20) (hb : lb ≤ 20) (hga : w.heap[ga]? = some (.cells (rowu a) 49 (0, 0))) (hgb : w.heap[gb]? = some (.cells (rowu b) 49 (0, 0))) :
    Calls Tryd.prog 39 #[.slice (some ⟨ga, 0, none⟩) la la, .slice (some ⟨gb, 0, none⟩) lb lb] w fun en w' => en = .returned (.slice (some ⟨w.heap.size, 0, none⟩) (la + lb + 1) (la + lb + 1)) ∧ w'.heap[w.heap.size]? = some (.cells (rowu c) 49 (0, 0)) ∧ Below w.heap.size w w' := by
  subst hla hlb
  rw [hc.out]
  refine (times_any a b ga gb w ha hb hga hgb).mono ?_
  rintro en w' ⟨n, rfl, hn, h1, h2⟩
  refine ⟨?_, h1, h2⟩
  rw [hn.out, timesF_len]
theorem above_l (a : List Nat) (r : Bool) (l n d g : Nat) (hr : Hid (r = aboveF a n d)) (hl : l = a.length) (w : World) (ha : l ≤ 20) (hd : 2 * d < l) (hn : n < 1000) (hg : w.heap[g]? = some (.cells (rowu a) 49 (0, 0))) (D : Int) (hD : D = d) :
    Calls Tryd.prog 40 #[.slice (some ⟨g, 0, none⟩) l l, .int .i64 n, .int .i64 D] w fun en w' => en = .returned (.bool r) ∧ Below w.heap.size w w' := by
  subst hl hD
  rw [hr.out]
  exact above_any a n d g w ha hd hn hg
theorem behind_int (n d lo hi : Nat) (h : (lo, hi) = bis n d 36) : (lo : Int) % 4294967296 = ((behindF n d).toNat : Int) := by
  have e : (bis n d 36).1 = lo := by rw [← h]
  unfold behindF
  rw [e, BitVec.toNat_ofNat]
  omega

set_option maxHeartbeats 1000000 in
theorem behind3_any (n : Nat) (hn : n < 1000) (w : World) :
    Calls Tryd.prog 29 #[.int .i64 n, .int .i64 3] w fun en w' => en = .returned (.int .u32 (behindF n 3).toNat) ∧ Below w.heap.size w w' := by
  obtain ⟨B, HB⟩ : ∃ B, Hid (B = bis n 3) := ⟨_, rfl⟩
  obtain ⟨R, HR⟩ : ∃ R : W32, Hid (R = behindF n 3) := ⟨_, rfl⟩
  rw [← HR.out]
  go_enter Tryd.func29, Tryd.ntmps29
  go_wp2
  go_loopw [5, 6] (fun l h wr => ∃ k lo hi : Nat, k ≤ 36 ∧ l = .int .u64 lo ∧ h = .int .u64 hi ∧ Hid ((lo, hi) = B k) ∧ Below w.heap.size w wr) (fun l h _ => (intOf h - intOf l).toNat)
  case atStart => exact ⟨0, 0, 68719476736, by omega, rfl, rfl, by rw [HB.out]; rfl, Below.refl _ _⟩
  case round =>
    obtain ⟨k, lo, hi, hk, rfl, rfl, H, hb⟩ := hrel
    have hsz := hb.size
    have hg := bis_gap n 3 k hk
    rw [← HB.out, ← H.out] at hg
    obtain ⟨hg1, hg2⟩ := hg
    simp only at hg1 hg2
    by_cases hlt : k < 36
    · have hp2 : 2 ≤ 2 ^ (36 - k) := by
        have : 2 ^ 1 ≤ 2 ^ (36 - k) := Nat.pow_le_pow_right (by omega) (by omega)
        omega
      have hlo : lo + 1 < hi := by omega
      clear hg1 hp2
      obtain ⟨mid, HM⟩ : ∃ mid, Hid (mid = (lo + hi) / 2) := ⟨_, rfl⟩
      have em : ((lo : Int) + (hi : Int)) / 2 = (mid : Int) := by rw [HM.out]; omega
      have hm1 : lo < mid := by rw [HM.out]; omega
      have hm2 : mid < hi := by rw [HM.out]; omega
      obtain ⟨r, HRr⟩ : ∃ r, Hid (r = partsF mid) := ⟨_, rfl⟩
      obtain ⟨p, HP⟩ : ∃ p, Hid (p = timesF r r) := ⟨_, rfl⟩
      obtain ⟨q, HQ⟩ : ∃ q, Hid (q = timesF p r) := ⟨_, rfl⟩
      obtain ⟨ab, HAB⟩ : ∃ ab, Hid (ab = aboveF q n 3) := ⟨_, rfl⟩
      have hs : B (k + 1) = if ab then (lo, mid) else (mid, hi) := by
        have : bis n 3 (k + 1) = halve n 3 (bis n 3 k) := rfl
        rw [HB.out, this, ← HB.out, ← H.out, halve, HAB.out, HQ.out, HP.out, HRr.out]
        simp [← HM.out, powF]
      have lr : 4 = r.length := by rw [HRr.out]; rfl
      have lp : 9 = p.length := by rw [HP.out, timesF_len, ← lr]
      have lq : 14 = q.length := by rw [HQ.out, timesF_len, ← lr, ← lp]
      have LR : Hid (4 = r.length) := lr
      have LP : Hid (9 = p.length) := lp
      have LQ : Hid (14 = q.length) := lq
      clear lr lp lq
      have hp0 := fun o => heap_alloc_new wr o
      cases ab
      all_goals
        simp only [if_true, Bool.false_eq_true, if_false] at hs
        have HS : Hid (_ = _) := hs
        clear hs
        go_wp2_with (first
          | (go_at_call 38; refine (parts_l mid r HRr (by omega) _).mono ?_; rintro en w1 ⟨rfl, rfl⟩)
          | (go_at_call 39; refine (times_l r r p 4 4 _ _ HP LR.out LR.out _ (by omega) (by omega) (hp0 _) (hp0 _)).mono ?_; rintro en w2 ⟨rfl, h2, b2⟩; have h2r := (b2.block wr.heap.size (by simp)).trans (hp0 _); have z2 := b2.size; simp only [World.size_alloc] at h2 z2; clear hp0)
          | (go_at_call 39; refine (times_l p r q 9 4 _ _ HQ LP.out LR.out _ (by omega) (by omega) h2 h2r).mono ?_; rintro en w3 ⟨rfl, h3, b3⟩; have z3 := b3.size; clear h2)
          | (go_at_call 40; refine (above_l q _ 14 n 3 _ HAB LQ.out _ (by omega) (by omega) hn h3 _ rfl).mono ?_; rintro en w4 ⟨rfl, b4⟩))
        have hch : Below w.heap.size w w4 := (((hb.alloc hsz _).trans (b2.mono (by simp; omega))).trans (b3.mono (by omega))).trans (b4.mono (by omega))
        go_roundw
        case rel => first | exact ⟨k + 1, mid, hi, by omega, rfl, rfl, HS.out.symm, hch⟩ | exact ⟨k + 1, lo, mid, by omega, rfl, rfl, HS.out.symm, hch⟩
        case measure => simp [intOf]; omega
    · obtain rfl : k = 36 := by omega
      have hlo : hi = lo + 1 := by simpa using hg1
      subst hlo
      clear hg1
      have HE : Hid ((lo : Int) % 4294967296 = (R.toNat : Int)) := by rw [HR.out]; exact behind_int n 3 lo (lo + 1) (by rw [H.out, HB.out])
      go_wp2
      go_ret
      exact ⟨ret_int HE.out, hb⟩

set_option maxHeartbeats 1000000 in
theorem behind2_any (n : Nat) (hn : n < 1000) (w : World) :
    Calls Tryd.prog 29 #[.int .i64 n, .int .i64 2] w fun en w' => en = .returned (.int .u32 (behindF n 2).toNat) ∧ Below w.heap.size w w' := by
  obtain ⟨B, HB⟩ : ∃ B, Hid (B = bis n 2) := ⟨_, rfl⟩
  obtain ⟨R, HR⟩ : ∃ R : W32, Hid (R = behindF n 2) := ⟨_, rfl⟩
  rw [← HR.out]
  go_enter Tryd.func29, Tryd.ntmps29
  go_wp2
  go_loopw [5, 6] (fun l h wr => ∃ k lo hi : Nat, k ≤ 36 ∧ l = .int .u64 lo ∧ h = .int .u64 hi ∧ Hid ((lo, hi) = B k) ∧ Below w.heap.size w wr) (fun l h _ => (intOf h - intOf l).toNat)
  case atStart => exact ⟨0, 0, 68719476736, by omega, rfl, rfl, by rw [HB.out]; rfl, Below.refl _ _⟩
  case round =>
    obtain ⟨k, lo, hi, hk, rfl, rfl, H, hb⟩ := hrel
    have hsz := hb.size
    have hg := bis_gap n 2 k hk
    rw [← HB.out, ← H.out] at hg
    obtain ⟨hg1, hg2⟩ := hg
    simp only at hg1 hg2
    by_cases hlt : k < 36
    · have hp2 : 2 ≤ 2 ^ (36 - k) := by
        have : 2 ^ 1 ≤ 2 ^ (36 - k) := Nat.pow_le_pow_right (by omega) (by omega)
        omega
      have hlo : lo + 1 < hi := by omega
      clear hg1 hp2
      obtain ⟨mid, HM⟩ : ∃ mid, Hid (mid = (lo + hi) / 2) := ⟨_, rfl⟩
      have em : ((lo : Int) + (hi : Int)) / 2 = (mid : Int) := by rw [HM.out]; omega
      have hm1 : lo < mid := by rw [HM.out]; omega
      have hm2 : mid < hi := by rw [HM.out]; omega
      obtain ⟨r, HRr⟩ : ∃ r, Hid (r = partsF mid) := ⟨_, rfl⟩
      obtain ⟨p, HP⟩ : ∃ p, Hid (p = timesF r r) := ⟨_, rfl⟩
      obtain ⟨ab, HAB⟩ : ∃ ab, Hid (ab = aboveF p n 2) := ⟨_, rfl⟩
      have hs : B (k + 1) = if ab then (lo, mid) else (mid, hi) := by
        have : bis n 2 (k + 1) = halve n 2 (bis n 2 k) := rfl
        rw [HB.out, this, ← HB.out, ← H.out, halve, HAB.out, HP.out, HRr.out]
        simp [← HM.out, powF]
      have lr : 4 = r.length := by rw [HRr.out]; rfl
      have lp : 9 = p.length := by rw [HP.out, timesF_len, ← lr]
      have LR : Hid (4 = r.length) := lr
      have LP : Hid (9 = p.length) := lp
      clear lr lp
      have hp0 := fun o => heap_alloc_new wr o
      cases ab
      all_goals
        simp only [if_true, Bool.false_eq_true, if_false] at hs
        have HS : Hid (_ = _) := hs
        clear hs
        go_wp2_with (first
          | (go_at_call 38; refine (parts_l mid r HRr (by omega) _).mono ?_; rintro en w1 ⟨rfl, rfl⟩)
          | (go_at_call 39; refine (times_l r r p 4 4 _ _ HP LR.out LR.out _ (by omega) (by omega) (hp0 _) (hp0 _)).mono ?_; rintro en w2 ⟨rfl, h2, b2⟩; have h2r := (b2.block wr.heap.size (by simp)).trans (hp0 _); have z2 := b2.size; simp only [World.size_alloc] at h2 z2; clear hp0)
          | (go_at_call 40; refine (above_l p _ 9 n 2 _ HAB LP.out _ (by omega) (by omega) hn h2 _ rfl).mono ?_; rintro en w4 ⟨rfl, b4⟩))
        have hch : Below w.heap.size w w4 := ((hb.alloc hsz _).trans (b2.mono (by simp; omega))).trans (b4.mono (by omega))
        go_roundw
        case rel => first | exact ⟨k + 1, mid, hi, by omega, rfl, rfl, HS.out.symm, hch⟩ | exact ⟨k + 1, lo, mid, by omega, rfl, rfl, HS.out.symm, hch⟩
        case measure => simp [intOf]; omega
    · obtain rfl : k = 36 := by omega
      have hlo : hi = lo + 1 := by simpa using hg1
      subst hlo
      clear hg1
      have HE : Hid ((lo : Int) % 4294967296 = (R.toNat : Int)) := by rw [HR.out]; exact behind_int n 2 lo (lo + 1) (by rw [H.out, HB.out])
      go_wp2
      go_ret
      exact ⟨ret_int HE.out, hb⟩
end Go.Proofs.YteiolcongejhgaaDoor
