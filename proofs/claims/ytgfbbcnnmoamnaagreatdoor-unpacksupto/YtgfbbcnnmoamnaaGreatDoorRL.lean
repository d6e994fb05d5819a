/- The document's blocks. The document's Inflate. -/
import Derived.Test.YtgfbbcnnmoamnaaGreatDoorRJ
import Derived.Test.YtgfbbcnnmoamnaaGreatDoorPU
namespace Go.Proofs.YtgfbbcnnmoamnaaGreatDoor
open Go.RowKit

/-- what one block says -/
def blk1 (s : List UInt8) (limit k : Nat) (out : List UInt8) : Res := if has s k 3 then blockS s limit (numAt s (k + 1) 2) (k + 3) out else .err 5
theorem fixedL_kraft : kraft fixedL = 32768 := by decide +kernel
theorem fixedD_kraft : kraft fixedD = 32768 := by decide +kernel
theorem kraft_sum (d : List Nat) : kraft d ≤ 16384 * d.sum := by
  unfold kraft
  induction d with
  | nil => simp
  | cons a d ih =>
    simp only [List.map_cons, List.sum_cons, Nat.mul_add]
    have : (if a = 0 then 0 else 2 ^ (15 - a)) ≤ 16384 * a := by
      split
      · omega
      · have : (2:Nat) ^ (15 - a) ≤ 2 ^ 14 := Nat.pow_le_pow_right (by omega) (by omega)
        omega
    omega
theorem ownS_facts {s : List UInt8} {k k2 : Nat} {l d : List Nat} (h : ownS s k = some (k2, l, d)) : l.length ≤ 400 ∧ d.length ≤ 400 ∧ (∀ n ∈ l, n ≤ 15) ∧ (∀ n ∈ d, n ≤ 15) ∧ kraft l ≤ 32768 ∧ kraft d ≤ 32768 := by
  unfold ownS at h
  split at h
  · have b1 := numAt_lt s k 5
    have b2 := numAt_lt s (k + 5) 5
    split at h
    · cases h
    · split at h
      · split at h
        · split at h
          · cases h
          · rename_i k3 row hrow
            obtain ⟨hr15, hrl⟩ := rowGo_le _ _ _ _ _ _ _ _ (fun x hx => by simp at hx) hrow
            split at h
            · cases h
            · rename_i hc
              injection h with h; injection h with h1 h2; injection h2 with h2 h3
              subst h2; subst h3
              refine ⟨by simp; omega, by simp; omega, fun n hn => hr15 n (List.mem_of_mem_take hn), fun n hn => hr15 n (List.mem_of_mem_drop hn), ?_, ?_⟩
              · by_cases hk : kraft (row.take (numAt s k 5 + 257)) = 32768
                · omega
                · exact absurd (.inr (.inl hk)) hc
              · by_cases hk : kraft (row.drop (numAt s k 5 + 257)) = 32768
                · omega
                · by_cases hs : (row.drop (numAt s k 5 + 257)).sum > 1
                  · exact absurd (.inr (.inr ⟨hk, hs⟩)) hc
                  · have := kraft_sum (row.drop (numAt s k 5 + 257)); omega
        · cases h
      · cases h
  · cases h
section
variable {g : Nat} {s : ByteArray} {lim k : Nat} {o : Value} {out : List UInt8} {e : Nat}
theorem rlengths_some (w : World) (h : Flo g s lim k o out 0 w) {k2 : Nat} {l d : List Nat} (ho : ownS s.data.toList k = some (k2, l, d)) :
    Calls Tryz.prog 199 #[.pointer (some ⟨g, 0, none⟩)] w fun r w' => ∃ b cap1 cap2, r = .returned (.tuple #[.slice (some ⟨b, 0, none⟩) l.length cap1, .slice (some ⟨b, l.length, none⟩) d.length cap2]) ∧ IntsAt w' b 0 l ∧ IntsAt w' b l.length d ∧ Flo g s lim k2 o out 0 w' ∧ Step g o o w w' := by
  refine (rlengths_any w h).mono ?_
  rintro r w' ⟨st, ⟨k2', l', d', b, cap1, cap2, h1, h2, h3, h4, h5⟩ | ⟨h1, _⟩⟩
  · rw [ho] at h1; injection h1 with h1; injection h1 with e1 e2; injection e2 with e2 e3; subst e1; subst e2; subst e3
    exact ⟨b, cap1, cap2, h2, h3, h4, h5, st⟩
  · rw [ho] at h1; cases h1
theorem rlengths_none (w : World) (h : Flo g s lim k o out 0 w) (ho : ownS s.data.toList k = none) :
    Calls Tryz.prog 199 #[.pointer (some ⟨g, 0, none⟩)] w fun r w' => ∃ va vb k2, r = .returned (.tuple #[va, vb]) ∧ Flo g s lim k2 o out 5 w' ∧ Step g o o w w' := by
  refine (rlengths_any w h).mono ?_
  rintro r w' ⟨st, ⟨k2', l', d', b, cap1, cap2, h1, _⟩ | ⟨h1, va, vb, k2, h2, h3⟩⟩
  · rw [ho] at h1; cases h1
  · exact ⟨va, vb, k2, h2, h3, st⟩
/-- what a block leaves -/
def RBk (g : Nat) (s : ByteArray) (lim : Nat) (o : Value) (w : World) (R : Res) (wx : World) : Prop :=
  ∃ (k2 c : Nat) (o' : Value) (out2 : List UInt8), Flo g s lim k2 o' out2 c wx ∧ Step g o o' w wx ∧ ((c = 0 ∧ R = .ok k2 out2) ∨ ((c = 5 ∨ c = 6) ∧ R = .err c))
theorem RBk.of_out {R : Res} {w w0 wx : World} (h : ROut g s lim o w R wx) (st : Step g o o w0 w) : RBk g s lim o w0 R wx := by
  cases R with
  | ok k2 out2 => obtain ⟨o', h1, h2⟩ := h; exact ⟨k2, 0, o', out2, h1, st.trans h2, .inl ⟨rfl, rfl⟩⟩
  | err c => obtain ⟨hc, k2, o', out2, h1, h2⟩ := h; exact ⟨k2, c, o', out2, h1, st.trans h2, .inr ⟨hc, rfl⟩⟩
set_option maxHeartbeats 1000000 in
set_option maxRecDepth 8000 in
theorem rblock_any (w : World) (h : Flo g s lim k o out 0 w) :
    Calls Tryz.prog 130 #[.pointer (some ⟨g, 0, none⟩)] w fun r w' => ∃ (k2 c : Nat) (o' : Value) (out2 : List UInt8), Flo g s lim k2 o' out2 c w' ∧ Step g o o' w w' ∧
      ((c = 0 ∧ blk1 s.data.toList lim k out = .ok k2 out2 ∧ r = .returned (.bool (decide (numAt s.data.toList k 1 = 1)))) ∨ ((c = 5 ∨ c = 6) ∧ blk1 s.data.toList lim k out = .err c ∧ r = .returned (.bool true))) := by
  obtain ⟨R, HR⟩ := hid_intro (blk1 s.data.toList lim k out)
  rw [← HR.out]
  unfold blk1 at HR
  have hss : s.data.toList.length = s.size := by simp
  have hkk := h.hk
  by_cases h3 : k + 3 ≤ 8 * s.size
  · rw [if_pos (show has s.data.toList k 3 by unfold has; omega)] at HR
    have l1 := numAt_lt s.data.toList k 1
    have l2 := numAt_lt s.data.toList (k + 1) 2
    obtain ⟨n1, HN1⟩ := hid_intro (numAt s.data.toList k 1)
    obtain ⟨n2, HN2⟩ := hid_intro (numAt s.data.toList (k + 1) 2)
    rw [← HN1.out] at l1 ⊢
    rw [← HN2.out] at l2 HR
    have l2' : n2 < 4 := l2
    have l1' : n1 < 2 := l1
    clear l1 l2
    obtain ⟨Bl, HBl⟩ := hid_intro (decide (n1 = 1))
    rw [← HBl.out]
    have hbl : ((n1 : Int) == 1) = Bl := by rw [HBl.out, Bool.eq_iff_iff]; simp; omega
    go_enter Tryz.func130, Tryz.ntmps130
    go_upto_block 0 with (first
      | (go_at_call 194; refine (rnumber_ok 1 (by omega) _ h (by omega)).mono ?_; rintro r w1 ⟨rfl, hf1, st1⟩; rw [← HN1.out]; clear h)
      | (go_at_call 194; refine (rnumber_ok 2 (by omega) _ hf1 (by omega)).mono ?_; rintro r w2 ⟨rfl, hf2, st2⟩; rw [← HN2.out]; have hf2' := (show Flo g s lim (k + 3) o out 0 w2 from hf2); clear hf1 hf2; have h42 := hf2'.c4))
    have HF2 := (show Hid (Flo g s lim (k + 3) o out 0 w2) from hf2')
    have HST := (show Hid (Step g o o w w2) from st1.trans st2)
    clear hf2' st1 st2 hbl
    go_cut [] (fun wx => RBk g s lim o w R wx)
    case first =>
      rcases (by omega : n2 = 0 ∨ n2 = 1 ∨ n2 = 2 ∨ n2 = 3) with hn | hn | hn | hn
      · have hb0 : ((n2 : Int) == 0) = true := beq_iff_eq.2 (by omega)
        have HR0 : Hid (R = storedS s.data.toList lim (k + 3) out) := by show _ = _; rw [HR.out, hn]; rfl
        clear hn l2' HR
        obtain ⟨K, HK⟩ := hid_intro (8 * ((k + 3 + 7) / 8))
        have hKk : k + 3 ≤ K := by have := HK.out; omega
        have hKs : K ≤ 8 * s.size := by have := HK.out; omega
        have HR1 : Hid (R = if has s.data.toList K 32 then if numAt s.data.toList K 16 + numAt s.data.toList (K + 16) 16 = 65535 then rawGo s.data.toList lim (numAt s.data.toList K 16) (K + 32) out else .err 5 else .err 5) := by rw [HR0.out, HK.out]; rfl
        have HKM : Hid (∀ k', k + 3 ≤ k' → k' ≤ K → (k' % 8 = 0 → k' = K) ∧ (k' % 8 ≠ 0 → k' < K)) := fun k' h1 h2 => by have := HK.out; constructor <;> omega
        have hf2 := HF2.out
        have st2 := HST.out
        clear HR0 HK HF2 HST h42
        go_wp2
        go_loopw [] (fun wr => ∃ k' : Nat, k + 3 ≤ k' ∧ k' ≤ K ∧ Flo g s lim k' o out 0 wr ∧ Step g o o w wr) (fun wr => K - posOf g wr)
        case atStart => exact ⟨k + 3, by omega, hKk, hf2, st2⟩
        case round =>
          clear hf2 st2
          obtain ⟨k', h1, h2, hF, st⟩ := hrel
          have hkm := HKM.out k' h1 h2
          have c1 := hF.c1
          have cf := hF.free 1
          have hpos := hF.pos
          have hs2 := hF.hs
          by_cases hm : k' % 8 = 0
          · obtain rfl : k' = K := hkm.1 hm
            have hmb : ((k' : Int) % 8 != 0) = false := by rw [bne_eq_false_iff_eq]; omega
            clear hkm hm HKM cf hpos h2
            by_cases h32 : k' + 16 + 16 ≤ 8 * s.size
            · rw [if_pos (show has s.data.toList k' 32 by unfold has; omega)] at HR1
              have ln := numAt_lt s.data.toList k' 16
              have lm := numAt_lt s.data.toList (k' + 16) 16
              obtain ⟨n, HN⟩ := hid_intro (numAt s.data.toList k' 16)
              obtain ⟨m, HM⟩ := hid_intro (numAt s.data.toList (k' + 16) 16)
              rw [← HN.out] at ln HR1
              rw [← HM.out] at lm HR1
              by_cases ht : n + m = 65535
              · rw [if_pos ht] at HR1
                have htb : ((n : Int) + (m : Int) != 65535) = false := by rw [bne_eq_false_iff_eq]; omega
                clear ht
                go_wp2_with (first
                  | (go_at_call 194; refine (rnumber_ok 16 (by omega) _ hF (by omega)).mono ?_; rintro r w3 ⟨rfl, hf3, st3⟩; rw [← HN.out]; clear hF)
                  | (go_at_call 194; refine (rnumber_ok 16 (by omega) _ hf3 (by omega)).mono ?_; rintro r w4 ⟨rfl, hf4, st4⟩; rw [← HM.out]; clear hf3; have hf4' := (show Flo g s lim (k' + 32) o out 0 w4 from hf4); clear hf4))
                have HS4 := (show Hid (Step g o o w w4) from (st.trans st3).trans st4)
                clear st st3 st4 htb hmb
                go_loopw [7] (fun vi wr => ∃ (i k2 c : Nat) (o' : Value) (out' : List UInt8), i ≤ n ∧ vi = .int .i64 (i : Int) ∧ Flo g s lim k2 o' out' c wr ∧ Step g o o' w wr ∧ ((c = 0 ∧ Hid (R = rawGo s.data.toList lim (n - i) k2 out')) ∨ ((c = 5 ∨ c = 6) ∧ Hid (R = .err c)))) (fun vi _ => n - (intOf vi).toNat)
                case atStart => exact ⟨0, _, 0, o, out, by omega, rfl, hf4', HS4.out, .inl ⟨rfl, HR1⟩⟩
                case round =>
                  clear hf4' HS4 HR1
                  obtain ⟨i, k2, c, o', out', hin, rfl, hF, st, hcase⟩ := hrel
                  have h4 := hF.c4
                  rcases hcase with ⟨rfl, HRi⟩ | ⟨hc, HE⟩
                  · by_cases hlt : i < n
                    · have HRj : Hid (R = if has s.data.toList k2 8 then (if out'.length ≥ lim then .err 6 else rawGo s.data.toList lim (n - (i + 1)) (k2 + 8) (out' ++ [UInt8.ofNat (numAt s.data.toList k2 8)])) else .err 5) := by
                        show R = _
                        rw [HRi.out, show n - i = n - (i + 1) + 1 by omega, rawGo]
                      have lx := numAt_lt s.data.toList k2 8
                      obtain ⟨x, HX⟩ := hid_intro (numAt s.data.toList k2 8)
                      rw [← HX.out] at HRj lx
                      have lx' : x < 256 := lx
                      have hxu : Hid ((x : Int) = ((UInt8.ofNat x).toNat : Int)) := by show (x : Int) = _; simp; omega
                      clear lx
                      by_cases h8 : k2 + 8 ≤ 8 * s.size
                      · rw [if_pos (show has s.data.toList k2 8 by unfold has; omega)] at HRj
                        by_cases hfull : out'.length ≥ lim
                        · rw [if_pos hfull] at HRj
                          go_wp2_with (first
                            | (go_at_call 194; refine (rnumber_ok 8 (by omega) _ hF h8).mono ?_; rintro r w5 ⟨rfl, hf5, st5⟩; rw [← HX.out])
                            | (go_at_call 196; refine (comes_full _ hf5 hfull).mono ?_; rintro r w6 ⟨rfl, hf6, st6⟩))
                          go_roundw
                          case rel => exact ⟨i + 1, _, 6, _, _, by omega, by go_num, hf6, (st.trans st5).trans st6, .inr ⟨.inr rfl, HRj⟩⟩
                          case measure => simp [intOf]; omega
                        · rw [if_neg hfull] at HRj
                          go_wp2_with (first
                            | (go_at_call 194; refine (rnumber_ok 8 (by omega) _ hF h8).mono ?_; rintro r w5 ⟨rfl, hf5, st5⟩; rw [← HX.out])
                            | (go_at_call 196; refine (comes_ok (UInt8.ofNat x) hxu.out _ hf5 hfull).mono ?_; rintro r w6 ⟨rfl, o6, hf6, st6⟩))
                          go_roundw
                          case rel => exact ⟨i + 1, _, 0, o6, _, by omega, by go_num, hf6, (st.trans st5).trans st6, .inl ⟨rfl, HRj⟩⟩
                          case measure => simp [intOf]; omega
                      · rw [if_neg (show ¬ has s.data.toList k2 8 by unfold has; omega)] at HRj
                        go_wp2_with (first
                          | (go_at_call 194; refine (rnumber_end 8 (by omega) _ hF h8).mono ?_; rintro r w5 ⟨rfl, hf5, st5⟩; rw [← HX.out]; have hf5' := (show Flo g s lim (8 * s.size) o' out' 5 w5 from hf5); clear hf5)
                          | (go_at_call 196; refine (comes_bad _ hf5' (by omega)).mono ?_; rintro r w6 ⟨rfl, hf6, st6⟩))
                        go_roundw
                        case rel => exact ⟨i + 1, _, 5, _, _, by omega, by go_num, hf6, (st.trans st5).trans st6, .inr ⟨.inl rfl, HRj⟩⟩
                        case measure => simp [intOf]; omega
                    · obtain rfl : i = n := by omega
                      have HO : Hid (R = .ok k2 out') := by show R = _; rw [HRi.out, Nat.sub_self]; rfl
                      go_wp2
                      go_meet
                      exact ⟨k2, 0, o', out', hF, st, .inl ⟨rfl, HO.out⟩⟩
                  · have he' : ((c : Int) == 0) = false := by simp; omega
                    by_cases hlt : i < n
                    all_goals
                      go_wp2
                      go_meet
                      exact ⟨k2, c, o', out', hF, st, .inr ⟨hc, HE.out⟩⟩
              · rw [if_neg ht] at HR1
                have htb : ((n : Int) + (m : Int) != 65535) = true := by rw [bne_iff_ne]; omega
                clear ht
                go_wp2_with (first
                  | (go_at_call 194; refine (rnumber_ok 16 (by omega) _ hF (by omega)).mono ?_; rintro r w3 ⟨rfl, hf3, st3⟩; rw [← HN.out]; clear hF)
                  | (go_at_call 194; refine (rnumber_ok 16 (by omega) _ hf3 (by omega)).mono ?_; rintro r w4 ⟨rfl, hf4, st4⟩; rw [← HM.out]; clear hf3)
                  | (go_at_call 195; refine (wrong_any _ hf4).mono ?_; rintro r w5 ⟨rfl, hf5, st5⟩; have hf5' := (show Flo g s lim (k' + 16 + 16) o out 5 w5 from hf5); clear hf5 hf4; have h45 := hf5'.c4))
                refine wp_loop_rounds 1 ?_
                rw [rounds_succ]
                by_cases hn0 : 0 < n
                all_goals
                  go_wp2
                  go_meet
                  exact ⟨_, 5, _, _, hf5', ((st.trans st3).trans st4).trans st5, .inr ⟨.inl rfl, HR1.out⟩⟩
            · rw [if_neg (show ¬ has s.data.toList k' 32 by unfold has; omega)] at HR1
              have ln := numAt_lt s.data.toList k' 16
              have lm := numAt_lt s.data.toList (min (k' + 16) (8 * s.size)) 16
              obtain ⟨n, HN⟩ := hid_intro (numAt s.data.toList k' 16)
              obtain ⟨m, HM⟩ := hid_intro (numAt s.data.toList (min (k' + 16) (8 * s.size)) 16)
              rw [← HN.out] at ln
              rw [← HM.out] at lm
              have HE : Hid (errN s (min (k' + 16) (8 * s.size)) 16 (errN s k' 16 0) = 5) := by
                show _ = _
                rcases errN_cases s k' 16 0 (.inl rfl) with ⟨q1, q2⟩ | ⟨q1, q2⟩
                · rw [q2, Nat.min_eq_left q1]
                  rcases errN_cases s (k' + 16) 16 0 (.inl rfl) with ⟨q3, q4⟩ | ⟨q3, q4⟩
                  · omega
                  · exact q4
                · rw [q2]
                  rcases errN_cases s (min (k' + 16) (8 * s.size)) 16 5 (.inr rfl) with ⟨q3, q4⟩ | ⟨q3, q4⟩ <;> exact q4
              by_cases ht : n + m = 65535
              · have htb : ((n : Int) + (m : Int) != 65535) = false := by rw [bne_eq_false_iff_eq]; omega
                clear ht
                go_wp2_with (first
                  | (go_at_call 194; refine (rnumber_any 16 (by omega) _ hF).mono ?_; rintro r w3 ⟨rfl, hf3, st3⟩; rw [← HN.out]; clear hF)
                  | (go_at_call 194; refine (rnumber_any 16 (by omega) _ hf3).mono ?_; rintro r w4 ⟨rfl, hf4, st4⟩; rw [← HM.out]; clear hf3; rw [HE.out] at hf4; have h44 := hf4.c4))
                refine wp_loop_rounds 1 ?_
                rw [rounds_succ]
                by_cases hn0 : 0 < n
                all_goals
                  go_wp2
                  go_meet
                  exact ⟨_, 5, _, _, hf4, (st.trans st3).trans st4, .inr ⟨.inl rfl, HR1.out⟩⟩
              · have htb : ((n : Int) + (m : Int) != 65535) = true := by rw [bne_iff_ne]; omega
                clear ht
                go_wp2_with (first
                  | (go_at_call 194; refine (rnumber_any 16 (by omega) _ hF).mono ?_; rintro r w3 ⟨rfl, hf3, st3⟩; rw [← HN.out]; clear hF)
                  | (go_at_call 194; refine (rnumber_any 16 (by omega) _ hf3).mono ?_; rintro r w4 ⟨rfl, hf4, st4⟩; rw [← HM.out]; clear hf3; rw [HE.out] at hf4)
                  | (go_at_call 195; refine (wrong_any _ hf4).mono ?_; rintro r w5 ⟨rfl, hf5, st5⟩; have hf5' := (show Flo g s lim _ o out 5 w5 from hf5); clear hf5 hf4; have h45 := hf5'.c4))
                refine wp_loop_rounds 1 ?_
                rw [rounds_succ]
                by_cases hn0 : 0 < n
                all_goals
                  go_wp2
                  go_meet
                  exact ⟨_, 5, _, _, hf5', ((st.trans st3).trans st4).trans st5, .inr ⟨.inl rfl, HR1.out⟩⟩
          · have hmb : ((k' : Int) % 8 != 0) = true := by rw [bne_iff_ne]; omega
            have hlt := hkm.2 hm
            clear hkm hm
            go_wp2
            go_roundw
            case rel => exact ⟨k' + 1, by omega, by omega, hF.read (k' + 1) (by omega) (by omega), st.trans (Step.cell _ ⟨g, 1, none⟩ rfl _)⟩
            case measure => rw [(hF.read (k' + 1) (by omega) (v := (k' : Int) + 1) (by omega)).pos, hpos]; omega
      · have hb0 : ((n2 : Int) == 0) = false := beq_eq_false_iff_ne.2 (by omega)
        have hb1 : ((n2 : Int) == 1) = true := beq_iff_eq.2 (by omega)
        have HR1 : Hid (R = symsGo fixedL fixedD s.data.toList lim (8 * s.size + 1) (k + 3) out) := by show _ = _; rw [HR.out, hn, ← hss]; rfl
        have HP := (show Hid _ from fun va vb w3 hf ha hb => rpacked_any (g := g) (s := s) (lim := lim) (k := k + 3) (o := o) (out := out) fixedL fixedD (by rw [fixedL_len]; omega) fixedL_le (by rw [fixedL_kraft]; omega) (by rw [fixedD_len]; omega) fixedD_le (by rw [fixedD_kraft]; omega) va vb w3 hf ha hb)
        have HXF := (show Hid _ from fun w => rfixed_any w)
        rw [← HR1.out] at HP
        clear hn l2' HR
        go_wp2_with (first
          | (go_at_call 197; refine Calls.mono (HXF.out _) ?_; rintro r w3 ⟨va, vb, rfl, ha, hb, hbl⟩; have HF3 := (show Hid (Flo g s lim (k + 3) o out 0 w3) from HF2.out.below hbl); have HA := (show Hid _ from CTab.of_own ha HF2.out.lt (fun b hb => (HF2.out.own.lt b hb).2)); have HB := (show Hid _ from CTab.of_own hb HF2.out.lt (fun b hb => (HF2.out.own.lt b hb).2)); have HS3 := (show Hid (Step g o o w w3) from HST.out.trans (Step.of_below hbl)); clear ha hb hbl)
          | (go_at_call 198; refine (HP.out va vb _ HF3.out HA.out HB.out).mono ?_; rintro r w4 ⟨rfl, ho4⟩))
        go_meet
        exact RBk.of_out ho4 HS3.out
      · have hb0 : ((n2 : Int) == 0) = false := beq_eq_false_iff_ne.2 (by omega)
        have hb1 : ((n2 : Int) == 1) = false := beq_eq_false_iff_ne.2 (by omega)
        have hb2 : ((n2 : Int) == 2) = true := beq_iff_eq.2 (by omega)
        cases hO : ownS s.data.toList (k + 3) with
        | none =>
          have HR1 : Hid (R = .err 5) := by show _ = _; rw [HR.out, hn]; unfold blockS; rw [if_neg (by omega), if_neg (by omega), if_pos rfl, hO]
          have HL := (show Hid _ from rlengths_none w2 HF2.out hO)
          clear hn l2' HR hO
          go_wp2_with (go_at_call 199; refine Calls.mono HL.out ?_; rintro r w3 ⟨va, vb, k3, rfl, hf3, st3⟩; have h43 := hf3.c4)
          go_meet
          exact ⟨_, 5, _, _, hf3, HST.out.trans st3, .inr ⟨.inl rfl, HR1.out⟩⟩
        | some p =>
          obtain ⟨k3, l, d⟩ := p
          have HR1 : Hid (R = symsGo l d s.data.toList lim (8 * s.size + 1) k3 out) := by show _ = _; rw [HR.out, hn, ← hss]; unfold blockS; rw [if_neg (by omega), if_neg (by omega), if_pos rfl, hO]
          have HL := (show Hid _ from rlengths_some w2 HF2.out hO)
          obtain ⟨q1, q2, q3, q4, q5, q6⟩ := ownS_facts hO
          have HP := (show Hid _ from fun va vb w3 hf ha hb => rpacked_any (g := g) (s := s) (lim := lim) (k := k3) (o := o) (out := out) l d q1 q3 q5 q2 q4 q6 va vb w3 hf ha hb)
          rw [← HR1.out] at HP
          have HC1 := (show Hid _ from rcodes_any l q1 q3)
          have HC2 := (show Hid _ from rcodes_any d q2 q4)
          clear hn l2' HR hO q1 q2 q3 q4 q5 q6
          obtain ⟨nl, HNL⟩ := hid_intro l.length
          obtain ⟨nd, HND⟩ := hid_intro d.length
          rw [← HNL.out] at HL HC1
          rw [← HND.out] at HL HC2
          go_wp2_with (first
            | (go_at_call 199; refine Calls.mono HL.out ?_; rintro r w3 ⟨b, cap1, cap2, rfl, hi1, hi2, hf3, st3⟩; have h43 := hf3.c4; have HI1 := (show Hid (IntsAt w3 b 0 l) from hi1); have HI2 := (show Hid (IntsAt w3 b nl d) from hi2); have HF3 := (show Hid (Flo g s lim k3 o out 0 w3) from hf3); have HS3 := (show Hid (Step g o o w w3) from HST.out.trans st3); clear hi1 hi2 hf3 st3; have first1 : True := trivial)
            | (go_at_call 200; have := first1; refine Calls.mono (HC1.out b 0 cap1 _ HI1.out) ?_; rintro r w4 ⟨va, rfl, ha, hbl⟩; have HF4 := (show Hid (Flo g s lim k3 o out 0 w4) from HF3.out.below hbl); have HA := (show Hid (CTab g va (ents l) o w4) from CTab.of_own ha HF3.out.lt (fun b hb => (HF3.out.own.lt b hb).2)); have HI4 := (show Hid (IntsAt w4 b nl d) from IntsAt.keep HI2.out hbl); have HS4 := (show Hid (Step g o o w w4) from HS3.out.trans (Step.of_below hbl)); clear ha hbl first1)
            | (go_at_call 200; refine Calls.mono (HC2.out b nl cap2 _ HI4.out) ?_; rintro r w5 ⟨vb, rfl, hb, hbl⟩; have HF5 := (show Hid (Flo g s lim k3 o out 0 w5) from HF4.out.below hbl); have HB := (show Hid (CTab g vb (ents d) o w5) from CTab.of_own hb HF4.out.lt (fun b hb => (HF4.out.own.lt b hb).2)); have HA5 := (show Hid (CTab g va (ents l) o w5) from CTab.keep HA.out hbl); have HS5 := (show Hid (Step g o o w w5) from HS4.out.trans (Step.of_below hbl)); clear hb hbl)
            | (go_at_call 198; refine (HP.out va vb _ HF5.out HA5.out HB.out).mono ?_; rintro r w6 ⟨rfl, ho6⟩))
          go_meet
          exact RBk.of_out ho6 HS5.out
      · have hb0 : ((n2 : Int) == 0) = false := beq_eq_false_iff_ne.2 (by omega)
        have hb1 : ((n2 : Int) == 1) = false := beq_eq_false_iff_ne.2 (by omega)
        have hb2 : ((n2 : Int) == 2) = false := beq_eq_false_iff_ne.2 (by omega)
        have HR1 : Hid (R = .err 5) := by show _ = _; rw [HR.out, hn]; rfl
        clear hn l2' HR
        go_wp2_with (go_at_call 195; refine (wrong_any _ HF2.out).mono ?_; rintro r w3 ⟨rfl, hf3, st3⟩; have hf3' := (show Flo g s lim (k + 3) o out 5 w3 from hf3); clear hf3)
        go_meet
        exact ⟨_, 5, _, _, hf3', HST.out.trans st3, .inr ⟨.inl rfl, HR1.out⟩⟩
    case rest =>
      clear HF2 HST h42 HR
      obtain ⟨k4, c, o4, out4, hF, st, hcase⟩ := hcut
      have h44 := hF.c4
      have HCS := (show Hid _ from hcase)
      have hc0 : c = 0 ∨ c = 5 ∨ c = 6 := hF.he
      clear hcase
      cases Bl with
      | true =>
        go_wp2
        go_ret
        rcases HCS.out with ⟨h1, h2⟩ | ⟨h1, h2⟩
        · exact ⟨k4, c, o4, out4, hF, st, .inl ⟨h1, h2, rfl⟩⟩
        · exact ⟨k4, c, o4, out4, hF, st, .inr ⟨h1, h2, rfl⟩⟩
      | false =>
        by_cases hz : c = 0
        · subst hz
          go_wp2
          go_ret
          rcases HCS.out with ⟨h1, h2⟩ | ⟨h1, h2⟩
          · exact ⟨k4, 0, o4, out4, hF, st, .inl ⟨rfl, h2, rfl⟩⟩
          · omega
        · have hcb : ((c : Int) != 0) = true := by rw [bne_iff_ne]; omega
          go_wp2
          go_ret
          rcases HCS.out with ⟨h1, h2⟩ | ⟨h1, h2⟩
          · omega
          · exact ⟨k4, c, o4, out4, hF, st, .inr ⟨h1, h2, rfl⟩⟩
  · rw [if_neg (show ¬ has s.data.toList k 3 by unfold has; omega)] at HR
    have l1 := numAt_lt s.data.toList k 1
    have l2 := numAt_lt s.data.toList (min (k + 1) (8 * s.size)) 2
    obtain ⟨n1, HN1⟩ := hid_intro (numAt s.data.toList k 1)
    obtain ⟨n2, HN2⟩ := hid_intro (numAt s.data.toList (min (k + 1) (8 * s.size)) 2)
    rw [← HN1.out] at l1
    rw [← HN2.out] at l2
    have HE : Hid (errN s (min (k + 1) (8 * s.size)) 2 (errN s k 1 0) = 5) := by
      show _ = _
      rcases errN_cases s k 1 0 (.inl rfl) with ⟨q1, q2⟩ | ⟨q1, q2⟩
      · rw [q2, Nat.min_eq_left q1]
        rcases errN_cases s (k + 1) 2 0 (.inl rfl) with ⟨q3, q4⟩ | ⟨q3, q4⟩
        · omega
        · exact q4
      · rw [q2]
        rcases errN_cases s (min (k + 1) (8 * s.size)) 2 5 (.inr rfl) with ⟨q3, q4⟩ | ⟨q3, q4⟩ <;> exact q4
    go_enter Tryz.func130, Tryz.ntmps130
    go_wp2_with (first
      | (go_at_call 194; refine (rnumber_any 1 (by omega) _ h).mono ?_; rintro r w1 ⟨rfl, hf1, st1⟩; rw [← HN1.out]; clear h)
      | (go_at_call 194; refine (rnumber_any 2 (by omega) _ hf1).mono ?_; rintro r w2 ⟨rfl, hf2, st2⟩; rw [← HN2.out]; rw [HE.out] at hf2; clear hf1; have h42 := hf2.c4))
    go_ret
    exact ⟨_, 5, o, out, hf2, st1.trans st2, .inr ⟨.inl rfl, HR.out, rfl⟩⟩
end
end Go.Proofs.YtgfbbcnnmoamnaaGreatDoor

namespace Go.Proofs.YtgfbbcnnmoamnaaGreatDoor
open Go.RowKit

theorem blocksGo_blk1 (s : List UInt8) (limit f k : Nat) (out : List UInt8) : blocksGo s limit (f + 1) k out = match blk1 s limit k out with
    | .err e => .err e
    | .ok k2 out2 => if numAt s k 1 = 1 then .ok k2 out2 else blocksGo s limit f k2 out2 := by
  rw [blocksGo, blk1]
  split
  · rfl
  · rfl
theorem blk1_le {s : List UInt8} {limit k k2 : Nat} {out out2 : List UInt8} (h : blk1 s limit k out = .ok k2 out2) : k < k2 := by
  unfold blk1 at h
  split at h
  · have := blockS_le h; omega
  · cases h
/-- what is still to be read -/
def overLeft (g n : Nat) (v : Value) (w : World) : Nat := match v with | .bool true => 0 | _ => n + 1 - posOf g w
section
variable {g : Nat} {s : ByteArray} {lim k : Nat} {o : Value} {out : List UInt8} {e : Nat}
theorem conv_flo {w : World} (h : Flo g s lim k o out e w) : (convert 66 9 o).run Tryz.prog w = .ok (.string ⟨out.toArray⟩) w := by
  rcases h.own.2 with ⟨rfl, h0⟩ | ⟨b, cap, cur, rfl, h1, hg, h2, h3, h4, h5⟩
  · have : out = [] := List.length_eq_zero_iff.1 h0
    subst this
    exact Lib.run_convert_nil_bytes w 66 9 5 _ Tryz.underlying66 Tryz.underlying5 Tryz.underlying9
  · refine run_convert_bytes_back w 66 9 5 ⟨b, 0, none⟩ cap out Tryz.underlying66 Tryz.underlying5 Tryz.underlying9 ?_
    intro j hj
    obtain ⟨b', cap', hv, _, hc⟩ := byte_cell h.own j hj
    injection hv with hv1
    injection hv1 with hv1
    injection hv1 with hv1
    subst hv1
    rw [show (⟨b, 0, none⟩ : Addr).add j = ⟨b, j, none⟩ by simp [Addr.add]; omega, hc]
    simp [hj]
end
set_option maxHeartbeats 1000000 in
set_option maxRecDepth 8000 in
theorem refInflate_many (s : ByteArray) (lim : Int) (h : s.size > 20000 ∨ lim < 0 ∨ lim > 20000) (w : World) :
    Calls Tryz.prog 70 #[.string s, .int .i64 lim] w fun e w' => Below w.heap.size w w' ∧ e = .returned (.tuple #[.string ByteArray.empty, .int .i64 0, .int .i64 1]) := by
  go_enter Tryz.func70, Tryz.ntmps70
  rcases (by omega : 20000 < (s.size : Int) ∨ (¬ 20000 < (s.size : Int) ∧ lim < 0) ∨ (¬ 20000 < (s.size : Int) ∧ ¬ lim < 0 ∧ 20000 < lim)) with h1 | ⟨h1, h2⟩ | ⟨h1, h2, h3⟩
  all_goals
    clear h
    go_wp2
    go_ret3
    exact ⟨⟨rfl, rfl, rfl, Nat.le_refl _, fun _ _ => rfl⟩, rfl⟩
/-- the document's answer -/
def refE : Res → Ending
  | .ok k out => .returned (.tuple #[.string ⟨out.toArray⟩, .int .i64 (((k + 7) / 8 : Nat) : Int), .int .i64 0])
  | .err c => .returned (.tuple #[.string ByteArray.empty, .int .i64 0, .int .i64 (c : Int)])
set_option maxHeartbeats 1000000 in
set_option maxRecDepth 8000 in
theorem refInflate_in (s : ByteArray) (lim : Nat) (hs : s.size ≤ 20000) (hl : lim ≤ 20000) (w : World) :
    Calls Tryz.prog 70 #[.string s, .int .i64 lim] w fun e w' => Below w.heap.size w w' ∧ e = refE (inflS s.data.toList lim) := by
  obtain ⟨R, HR⟩ := hid_intro (inflS s.data.toList lim)
  rw [← HR.out]
  have hss : s.data.toList.length = s.size := by simp
  have HR0 : Hid (R = blocksGo s.data.toList lim (8 * s.size + 1) 0 []) := by show _ = _; rw [HR.out, ← hss]; rfl
  clear HR
  have d1 : decide ((20000 : Int) < (s.size : Int)) = false := decide_eq_false (by omega)
  have d2 : decide ((lim : Int) < 0) = false := decide_eq_false (by omega)
  have d3 : decide ((20000 : Int) < (lim : Int)) = false := decide_eq_false (by omega)
  go_enter Tryz.func70, Tryz.ntmps70
  go_wp2
  obtain ⟨g, HG⟩ := hid_intro w.heap.size
  obtain ⟨W, HW⟩ := hid_intro (w.alloc (.cells #[.string s, .int .i64 0, .slice none 0 0, .int .i64 (lim : Int), .int .i64 0] 240))
  rw [← HW.out, ← HG.out]
  have hf0 : Flo g s lim 0 (.slice none 0 0) [] 0 W := by
    rw [HW.out, HG.out]
    exact ⟨hs, hl, heap_alloc_new w _, ⟨by simp [Lib.byteCells], .inl ⟨rfl, rfl⟩⟩, by omega, by simp, .inl rfl⟩
  have HB0 : Hid (Below g w W) := by rw [HW.out, HG.out]; exact (Below.refl _ w).alloc (Nat.le_refl _) _
  clear d1 d2 d3 HW
  go_loopw [8] (fun vo wr => ∃ (f k c : Nat) (o' : Value) (out' : List UInt8) (bo : Bool), vo = .bool bo ∧ Flo g s lim k o' out' c wr ∧ Step g (.slice none 0 0) o' W wr ∧ ((bo = false ∧ c = 0 ∧ 8 * s.size + 1 ≤ f + k ∧ Hid (R = blocksGo s.data.toList lim f k out')) ∨ (bo = true ∧ c = 0 ∧ Hid (R = .ok k out')) ∨ (bo = true ∧ (c = 5 ∨ c = 6) ∧ Hid (R = .err c)))) (fun vo wr => overLeft g (8 * s.size) vo wr)
  case atStart => exact ⟨_, 0, 0, _, [], false, rfl, hf0, Step.refl .., .inl ⟨rfl, rfl, by omega, HR0⟩⟩
  case round =>
    clear hf0
    obtain ⟨f, k, c, o', out', bo, rfl, hF, st, hcase⟩ := hrel
    have hBW : Below g w wr := by
      have hb := HB0.out
      rw [HG.out] at hb st ⊢
      exact infl_below hb (Nat.le_refl _) st
    have HBW := (show Hid _ from hBW)
    have hpos := hF.pos
    have hk' := hF.hk
    have h4 := hF.c4
    clear hBW
    rcases hcase with ⟨rfl, rfl, hf, HRf⟩ | ⟨rfl, rfl, HRf⟩ | ⟨rfl, hc, HRf⟩
    · obtain ⟨f, rfl⟩ : ∃ f', f = f' + 1 := ⟨f - 1, by omega⟩
      have HRb : Hid _ := HRf.out
      rw [blocksGo_blk1] at HRb
      have HST := (show Hid (Step g (.slice none 0 0) o' W wr) from st)
      have HLE := (show Hid _ from fun k2 out2 => blk1_le (s := s.data.toList) (limit := lim) (k := k) (k2 := k2) (out := out') (out2 := out2))
      obtain ⟨Q, HQ⟩ := hid_intro (decide (numAt s.data.toList k 1 = 1))
      have HBK := (show Hid _ from rblock_any wr hF)
      rw [← HQ.out] at HBK
      clear hF st HRf HB0
      obtain ⟨X, HX⟩ := hid_intro (blk1 s.data.toList lim k out')
      rw [← HX.out] at HRb HBK HLE
      go_wp2_with (go_at_call 130; refine Calls.mono HBK.out ?_; rintro r w1 ⟨k2, c2, o2, out2, hf2, st2, hc2⟩; obtain ⟨bo, rfl, hc3⟩ : ∃ bo : Bool, r = .returned (.bool bo) ∧ ((c2 = 0 ∧ X = .ok k2 out2 ∧ bo = Q) ∨ ((c2 = 5 ∨ c2 = 6) ∧ X = .err c2 ∧ bo = true)) := (by rcases hc2 with ⟨a1, a2, a3⟩ | ⟨a1, a2, a3⟩; exact ⟨Q, a3, .inl ⟨a1, a2, rfl⟩⟩; exact ⟨true, a3, .inr ⟨a1, a2, rfl⟩⟩); clear hc2)
      go_roundw
      case rel =>
        refine ⟨f, k2, c2, o2, out2, bo, rfl, hf2, HST.out.trans st2, ?_⟩
        rcases hc3 with ⟨a1, a2, a3⟩ | ⟨a1, a2, a3⟩
        · have hlt := HLE.out k2 out2 a2
          have hr := HRb.out
          rw [a2] at hr
          simp only [] at hr
          cases hq : Q with
          | true =>
            rw [hq] at HQ
            rw [if_pos (of_decide_eq_true HQ.out.symm)] at hr
            exact .inr (.inl ⟨a3.trans hq, a1, hr⟩)
          | false =>
            rw [hq] at HQ
            rw [if_neg (of_decide_eq_false HQ.out.symm)] at hr
            exact .inl ⟨a3.trans hq, a1, by omega, hr⟩
        · have hr := HRb.out
          rw [a2] at hr
          exact .inr (.inr ⟨a3, a1, hr⟩)
      case measure =>
        rcases hc3 with ⟨a1, a2, a3⟩ | ⟨a1, a2, a3⟩
        · have hlt := HLE.out k2 out2 a2
          have := hf2.hk
          unfold overLeft
          rw [hf2.pos, hpos]
          cases bo with
          | true => simp only []; omega
          | false => simp only []; omega
        · rw [a3]; unfold overLeft; rw [hpos]; simp only []; omega
    · have h2 := hF.c2
      have h1 := hF.c1
      have hk := fun n => conv_flo (hF.drewN n)
      have hs2 := hF.hs
      go_wp2
      go_quiet (fail)
      go_wp2
      go_ret3
      have hb := HBW.out
      rw [HG.out] at hb
      rw [HRf.out]
      exact ⟨⟨hb.os, hb.tape, hb.output, hb.size, hb.block⟩, by first | rfl | (simp; omega)⟩
    · have hcb : ((c : Int) != 0) = true := by rw [bne_iff_ne]; omega
      go_wp2
      go_quiet (fail)
      go_wp2
      go_ret3
      have hb := HBW.out
      rw [HG.out] at hb
      rw [HRf.out]
      exact ⟨⟨hb.os, hb.tape, hb.output, hb.size, hb.block⟩, rfl⟩
end Go.Proofs.YtgfbbcnnmoamnaaGreatDoor
