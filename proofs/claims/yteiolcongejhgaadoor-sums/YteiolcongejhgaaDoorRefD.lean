/- What the document's words are. -/
import Derived.Test.YteiolcongejhgaaDoorRefC
import Derived.Test.YteiolcongejhgaaDoorRoots
namespace Go.Proofs.YteiolcongejhgaaDoor
open Go.RowKit

theorem own_below {w w' : World} {base : Nat} {e : TypeId} {size : Nat} {v : Value} {n : Nat} {xs : List Value} (h : w.ownsRow base e size v n xs) (hb : Below w.heap.size w w') : w'.ownsRow base e size v n xs := by
  refine ⟨h.1, ?_⟩
  rcases h.2 with hn | ⟨g, cap, cur, rfl, h1, hg, rest⟩
  · exact .inl hn
  · exact .inr ⟨g, cap, cur, rfl, h1, (hb.block g (lt_of_block hg)).trans hg, rest⟩
theorem own_shape {w : World} {base : Nat} {e : TypeId} {size : Nat} {v : Value} {n : Nat} {xs : List Value} (h : w.ownsRow base e size v n xs) : ∃ ao cap, v = .slice ao n cap := by
  rcases h.2 with ⟨rfl, rfl⟩ | ⟨g, cap, cur, rfl, _⟩
  · exact ⟨none, 0, rfl⟩
  · exact ⟨_, cap, rfl⟩
theorem grown_below {B : Nat} {w w1 w2 : World} {v : Value} {base : Nat} {e : TypeId} {size n : Nat} {xs : List Value} (hb : Below B w w1) (hown : w1.ownsRow base e size v n xs) (hB : B ≤ base) (hsz : B ≤ w1.heap.size) (hg : w1.grownBy w2 v.ownBlock) : Below B w w2 :=
  hb.grown hg hsz (fun k hk => Nat.le_trans hB (hown.lt k hk).1)
theorem info37 : (Tryd.prog.info? 37).map (fun i => (i.zero, i.size, i.bytes)) = some (some (.int .u32 0), 1, 4) := by kernel_rfl
def wvals (l : List W32) : List Value := l.map fun x => Value.int .u32 (x.toNat : Int)
theorem wvals_len (l : List W32) : (wvals l).length = l.length := by simp [wvals]
theorem prime_l (n : Nat) (r : Bool) (hr : Hid (r = isP n)) (hn : n ≤ 312) (w : World) :
    Calls Tryd.prog 28 #[.int .i64 n] w fun en w' => en = .returned (.bool r) ∧ w' = w := by
  rw [hr.out]; exact prime_any n hn w
theorem wordsF_len (d n : Nat) (h : pcount n ≤ 64) : (wordsF d n).length = pcount n := by
  simp only [wordsF, List.length_map, List.length_take]
  have : primes.length = 64 := rfl
  omega
theorem words_next (d n : Nat) (h2 : 2 ≤ n) (hn : n < 312) (hp : isP n = true) (hc : pcount n < 64) : wordsF d (n + 1) = wordsF d n ++ [behindF n d] ∧ pcount (n + 1) = pcount n + 1 := by
  have h := pcount_step n hn h2
  rw [hp] at h
  obtain ⟨_, h3, h4⟩ := h
  refine ⟨?_, h4⟩
  have hl : primes.length = 64 := rfl
  unfold wordsF
  rw [h4, List.take_succ_eq_append_getElem (by omega), List.map_append]
  have e0 : primes[pcount n]'(by omega) = primes.getD (pcount n) 0 := by simp [hl, hc]
  have e : primes[pcount n]'(by omega) = n := e0.trans h3
  simp only [List.map_cons, List.map_nil, e]
theorem words_same (d n : Nat) (h2 : 2 ≤ n) (hn : n < 312) (hp : isP n = false) : wordsF d (n + 1) = wordsF d n ∧ pcount (n + 1) = pcount n := by
  have h := pcount_step n hn h2
  rw [hp] at h
  have h4 : pcount (n + 1) = pcount n := by simpa using h.2
  exact ⟨by unfold wordsF; rw [h4], h4⟩
theorem words_end (d n m N : Nat) (h : pcount n = m) (hN : pcount N = m) : wordsF d n = wordsF d N := by
  unfold wordsF; rw [h, hN]

theorem behind3_l (n : Nat) (R : W32) (HR : Hid (R = behindF n 3)) (hn : n < 1000) (w : World) :
    Calls Tryd.prog 29 #[.int .i64 n, .int .i64 3] w fun en w' => en = .returned (.int .u32 R.toNat) ∧ Below w.heap.size w w' := by
  rw [HR.out]; exact behind3_any n hn w
set_option maxHeartbeats 1000000 in
theorem words3_any (w : World) :
    Calls Tryd.prog 22 #[.int .i64 3] w fun en w' => ∃ v, en = .returned v ∧ w'.ownsRow w.heap.size 37 1 v 64 (wvals (wordsF 3 312)) ∧ Below w.heap.size w w' := by
  obtain ⟨i0, hi0, hz0, hz1, hz2⟩ := info_parts info37
  obtain ⟨F, HF⟩ : ∃ F, Hid (F = wordsF 3) := ⟨_, rfl⟩
  obtain ⟨C, HC⟩ : ∃ C, Hid (C = pcount) := ⟨_, rfl⟩
  rw [← HF.out]
  go_enter Tryd.func22, Tryd.ntmps22
  go_wp2
  go_loopw [4, 5] (fun v i wr => ∃ (n cap : Nat) (ao : Option Addr), 2 ≤ n ∧ n ≤ 312 ∧ i = .int .i64 n ∧ C n ≤ 64 ∧ v = .slice ao (C n) cap ∧ wr.ownsRow w.heap.size 37 1 (.slice ao (C n) cap) (C n) (wvals (F n)) ∧ Below w.heap.size w wr) (fun _ i _ => 312 - (intOf i).toNat)
  case atStart =>
    have h0 : C 2 = 0 := by rw [HC.out]; exact pcount_two
    have h1 : F 2 = [] := by rw [HF.out]; unfold wordsF; rw [pcount_two]; rfl
    exact ⟨2, 0, none, by omega, by omega, rfl, by omega, by rw [h0], by rw [h0, h1]; exact World.ownsRow_nil _ _ _ _, Below.refl _ _⟩
  case round =>
    obtain ⟨n, cap, ao, hn2, hnN, rfl, hcm, rfl, hown, hb⟩ := hrel
    have hsz := hb.size
    obtain ⟨c, Hc⟩ : ∃ c, Hid (c = C n) := ⟨_, rfl⟩
    rw [← Hc.out] at hown hcm ⊢
    by_cases hlt : c < 64
    · have hnlt : n < 312 := by
        rcases Nat.lt_or_ge n 312 with h | h
        · exact h
        · have e : n = 312 := by omega
          have := Hc.out
          rw [HC.out, e, pcount_end] at this
          omega
      obtain ⟨R, HR⟩ : ∃ R : W32, Hid (R = behindF n 3) := ⟨_, rfl⟩
      obtain ⟨r, Hr⟩ : ∃ r, Hid (r = isP n) := ⟨_, rfl⟩
      have hcp : pcount n = c := by rw [Hc.out, HC.out]
      cases r
      · have hs := words_same 3 n hn2 (by omega) Hr.out.symm
        have HS : Hid (F (n + 1) = F n ∧ C (n + 1) = c) := by rw [HF.out, HC.out, ← hcp]; exact hs
        clear hs hcp
        go_wp2_with (go_at_call 28; refine (prime_l n _ Hr (by omega) _).mono ?_; rintro en w1 ⟨rfl, rfl⟩)
        go_roundw
        case rel => exact ⟨n + 1, cap, ao, by omega, by omega, by go_num, by rw [HS.out.2]; omega, by rw [HS.out.2], by rw [HS.out.1, HS.out.2]; exact hown, hb⟩
        case measure => simp [intOf]; omega
      · have hs := words_next 3 n hn2 (by omega) Hr.out.symm (by omega)
        have HS : Hid (F (n + 1) = F n ++ [R] ∧ C (n + 1) = c + 1) := by rw [HF.out, HC.out, ← hcp, HR.out]; exact hs
        clear hs hcp
        go_wp2_with (first
          | (go_at_call 28; refine (prime_l n _ Hr (by omega) _).mono ?_; rintro en w1 ⟨rfl, rfl⟩)
          | (go_at_call 29; refine (behind3_l n R HR (by omega) _).mono ?_; rintro en w2 ⟨rfl, b2⟩; have hown2 := own_below hown b2; have z2 := b2.size; have hb2 := hb.trans (b2.mono hsz); clear hown)
          | (at_builtin; refine wpList_append_own _ rfl (.tmp 18) (.tmp 22) 50 rfl w.heap.size 37 i0 (.int .u32 0) 1 4 Tryd.underlying50 hi0 hz0 hz1 hz2 rfl (by decide) _ c _ rfl (hown2.alloc _) ⟨w2.heap.size, 0, none⟩ 1 1 [.int .u32 (R.toNat : Int)] rfl rfl (cell_one_new _ _ _) (by simp [Value.oneCell']) (by unfold maxLen; omega) (by omega) (by simp; omega) ?_; intro v' w3 hown3 hg3 _))
        obtain ⟨ao', cap', hv'⟩ := own_shape hown3
        have hb3 := grown_below (hb2.alloc (by omega) _) (hown2.alloc _) (Nat.le_refl _) (by simp; omega) hg3
        go_roundw
        case rel => exact ⟨n + 1, cap', ao', by omega, by omega, by go_num, by rw [HS.out.2]; omega, by rw [HS.out.2]; exact hv', by rw [HS.out.1, HS.out.2, ← hv']; simpa [wvals] using hown3, hb3⟩
        case measure => simp [intOf]; omega
    · have hE : F n = F 312 := by
        rw [HF.out]
        exact words_end 3 n 64 312 (by have := Hc.out; rw [HC.out] at this; omega) pcount_end
      have ec : c = 64 := by omega
      subst ec
      go_wp2
      go_ret
      exact ⟨_, rfl, by rw [← hE]; exact hown, hb⟩

theorem behind2_l (n : Nat) (R : W32) (HR : Hid (R = behindF n 2)) (hn : n < 1000) (w : World) :
    Calls Tryd.prog 29 #[.int .i64 n, .int .i64 2] w fun en w' => en = .returned (.int .u32 R.toNat) ∧ Below w.heap.size w w' := by
  rw [HR.out]; exact behind2_any n hn w
set_option maxHeartbeats 1000000 in
theorem words2_any (w : World) :
    Calls Tryd.prog 22 #[.int .i64 2] w fun en w' => ∃ v, en = .returned v ∧ w'.ownsRow w.heap.size 37 1 v 8 (wvals (wordsF 2 20)) ∧ Below w.heap.size w w' := by
  obtain ⟨i0, hi0, hz0, hz1, hz2⟩ := info_parts info37
  obtain ⟨F, HF⟩ : ∃ F, Hid (F = wordsF 2) := ⟨_, rfl⟩
  obtain ⟨C, HC⟩ : ∃ C, Hid (C = pcount) := ⟨_, rfl⟩
  rw [← HF.out]
  go_enter Tryd.func22, Tryd.ntmps22
  go_wp2
  go_loopw [4, 5] (fun v i wr => ∃ (n cap : Nat) (ao : Option Addr), 2 ≤ n ∧ n ≤ 20 ∧ i = .int .i64 n ∧ C n ≤ 8 ∧ v = .slice ao (C n) cap ∧ wr.ownsRow w.heap.size 37 1 (.slice ao (C n) cap) (C n) (wvals (F n)) ∧ Below w.heap.size w wr) (fun _ i _ => 20 - (intOf i).toNat)
  case atStart =>
    have h0 : C 2 = 0 := by rw [HC.out]; exact pcount_two
    have h1 : F 2 = [] := by rw [HF.out]; unfold wordsF; rw [pcount_two]; rfl
    exact ⟨2, 0, none, by omega, by omega, rfl, by omega, by rw [h0], by rw [h0, h1]; exact World.ownsRow_nil _ _ _ _, Below.refl _ _⟩
  case round =>
    obtain ⟨n, cap, ao, hn2, hnN, rfl, hcm, rfl, hown, hb⟩ := hrel
    have hsz := hb.size
    obtain ⟨c, Hc⟩ : ∃ c, Hid (c = C n) := ⟨_, rfl⟩
    rw [← Hc.out] at hown hcm ⊢
    by_cases hlt : c < 8
    · have hnlt : n < 20 := by
        rcases Nat.lt_or_ge n 20 with h | h
        · exact h
        · have e : n = 20 := by omega
          have := Hc.out
          rw [HC.out, e, pcount_20] at this
          omega
      obtain ⟨R, HR⟩ : ∃ R : W32, Hid (R = behindF n 2) := ⟨_, rfl⟩
      obtain ⟨r, Hr⟩ : ∃ r, Hid (r = isP n) := ⟨_, rfl⟩
      have hcp : pcount n = c := by rw [Hc.out, HC.out]
      cases r
      · have hs := words_same 2 n hn2 (by omega) Hr.out.symm
        have HS : Hid (F (n + 1) = F n ∧ C (n + 1) = c) := by rw [HF.out, HC.out, ← hcp]; exact hs
        clear hs hcp
        go_wp2_with (go_at_call 28; refine (prime_l n _ Hr (by omega) _).mono ?_; rintro en w1 ⟨rfl, rfl⟩)
        go_roundw
        case rel => exact ⟨n + 1, cap, ao, by omega, by omega, by go_num, by rw [HS.out.2]; omega, by rw [HS.out.2], by rw [HS.out.1, HS.out.2]; exact hown, hb⟩
        case measure => simp [intOf]; omega
      · have hs := words_next 2 n hn2 (by omega) Hr.out.symm (by omega)
        have HS : Hid (F (n + 1) = F n ++ [R] ∧ C (n + 1) = c + 1) := by rw [HF.out, HC.out, ← hcp, HR.out]; exact hs
        clear hs hcp
        go_wp2_with (first
          | (go_at_call 28; refine (prime_l n _ Hr (by omega) _).mono ?_; rintro en w1 ⟨rfl, rfl⟩)
          | (go_at_call 29; refine (behind2_l n R HR (by omega) _).mono ?_; rintro en w2 ⟨rfl, b2⟩; have hown2 := own_below hown b2; have z2 := b2.size; have hb2 := hb.trans (b2.mono hsz); clear hown)
          | (at_builtin; refine wpList_append_own _ rfl (.tmp 18) (.tmp 22) 50 rfl w.heap.size 37 i0 (.int .u32 0) 1 4 Tryd.underlying50 hi0 hz0 hz1 hz2 rfl (by decide) _ c _ rfl (hown2.alloc _) ⟨w2.heap.size, 0, none⟩ 1 1 [.int .u32 (R.toNat : Int)] rfl rfl (cell_one_new _ _ _) (by simp [Value.oneCell']) (by unfold maxLen; omega) (by omega) (by simp; omega) ?_; intro v' w3 hown3 hg3 _))
        obtain ⟨ao', cap', hv'⟩ := own_shape hown3
        have hb3 := grown_below (hb2.alloc (by omega) _) (hown2.alloc _) (Nat.le_refl _) (by simp; omega) hg3
        go_roundw
        case rel => exact ⟨n + 1, cap', ao', by omega, by omega, by go_num, by rw [HS.out.2]; omega, by rw [HS.out.2]; exact hv', by rw [HS.out.1, HS.out.2, ← hv']; simpa [wvals] using hown3, hb3⟩
        case measure => simp [intOf]; omega
    · have hE : F n = F 20 := by
        rw [HF.out]
        exact words_end 2 n 8 20 (by have := Hc.out; rw [HC.out] at this; omega) pcount_20
      have ec : c = 8 := by omega
      subst ec
      go_wp2
      go_ret
      exact ⟨_, rfl, by rw [← hE]; exact hown, hb⟩
end Go.Proofs.YteiolcongejhgaaDoor
