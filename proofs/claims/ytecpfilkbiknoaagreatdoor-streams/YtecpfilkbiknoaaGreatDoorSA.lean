/- What the statement asks of single calls. What the statement asks of Deflate. The law. -/
import Derived.Test.YtecpfilkbiknoaaGreatDoorRL
import Derived.Test.YtecpfilkbiknoaaGreatDoorDK
namespace Go.Proofs.YtecpfilkbiknoaaGreatDoor
open Go.RowKit

set_option maxHeartbeats 400000 in
theorem num_any (n : Int) (w : World) : Calls Tryz.prog 8 #[.int .i64 n] w fun e w' => e = .returned (.int .i64 n) ∧ w' = w := by
  go_enter Tryz.func8, Tryz.ntmps8
  go_wp2
  go_ret
  exact ⟨rfl, rfl⟩
theorem refInflate_any (s : ByteArray) (lim : Int) (w : World) :
    Calls Tryz.prog 7 #[.string s, .int .i64 lim] w fun e w' => e = .returned (.tuple (inflA s lim)) ∧ Below w.heap.size w w' := by
  by_cases hm : s.size > 20000 ∨ lim < 0 ∨ lim > 20000
  · refine (refInflate_many s lim hm w).mono ?_
    rintro e w' ⟨hb, rfl⟩
    unfold inflA
    rw [if_pos hm]
    exact ⟨rfl, hb⟩
  · obtain ⟨n, rfl⟩ : ∃ n : Nat, lim = (n : Int) := ⟨lim.toNat, by omega⟩
    refine (refInflate_in s n (by omega) (by omega) w).mono ?_
    rintro e w' ⟨hb, rfl⟩
    unfold inflA
    rw [if_neg hm, Int.toNat_natCast]
    cases inflS s.data.toList n with
    | ok k out => exact ⟨rfl, hb⟩
    | err c => exact ⟨rfl, hb⟩
theorem inflA_form (s : ByteArray) (lim : Int) : ∃ t n c, inflA s lim = #[.string t, .int .i64 n, .int .i64 c] := by
  unfold inflA
  split
  · exact ⟨_, _, _, rfl⟩
  · cases inflS s.data.toList lim.toNat with
    | ok k out => exact ⟨_, _, _, rfl⟩
    | err c => exact ⟨_, _, _, rfl⟩
set_option maxHeartbeats 1000000 in
set_option maxRecDepth 8000 in
theorem inflated_any {er : Errs} (s : ByteArray) (lim : Int) (w : World) (he : er.Full w) :
    Calls Tryz.prog 4 #[.string s, .int .i64 lim] w fun e w' => e = .returned (.bool true) ∧ Below w.heap.size w w' := by
  have HA := (show Hid _ from fun w (h : er.Full w) => inflate_any s lim w h)
  have HB := (show Hid _ from fun w => refInflate_any s lim w)
  obtain ⟨t, n, c, ht⟩ := inflA_form s lim
  rw [ht] at HA HB
  clear ht
  have hb1 : (t.toList == t.toList) = true := by simp
  go_enter Tryz.func4, Tryz.ntmps4
  go_wp2_with (first
    | (go_at_call 6; refine Calls.mono (HA.out _ he) ?_; rintro e w1 ⟨rfl, hbl1⟩)
    | (go_at_call 7; refine Calls.mono (HB.out _) ?_; rintro e w2 ⟨rfl, hbl2⟩)
    | (go_at_call 8; refine (num_any c _).mono ?_; rintro e w3 ⟨rfl, hw3⟩; rw [hw3]; clear hw3))
  go_ret
  exact ⟨by simp, hbl1.trans (hbl2.mono hbl1.size)⟩
set_option maxHeartbeats 1000000 in
set_option maxRecDepth 8000 in
theorem deflated_many {er : Errs} (s : ByteArray) (h : 20000 < s.size) (w : World) (he : er.Full w) :
    Calls Tryz.prog 5 #[.string s] w fun e w' => e = .returned (.bool true) ∧ Below w.heap.size w w' := by
  have hd : (20000 : Int) < (s.size : Int) := by omega
  go_enter Tryz.func5, Tryz.ntmps5
  go_wp2_with (first
    | (go_at_call 9; refine (deflate_many s h _ he).mono ?_; rintro e w1 ⟨rfl, hbl1⟩)
    | (go_at_call 8; refine (num_any 1 _).mono ?_; rintro e w3 ⟨rfl, hw3⟩; rw [hw3]; clear hw3))
  go_ret
  exact ⟨by simp, hbl1⟩
end Go.Proofs.YtecpfilkbiknoaaGreatDoor

namespace Go.Proofs.YtecpfilkbiknoaaGreatDoor
open Go.RowKit

theorem cut_str (t : ByteArray) (i : Int) (j : Nat) (hi : i = j) (hj : j ≤ t.size) (w : World) : (Instr.slice 9 (.string t) none (some (.int .i64 i)) none).run Tryz.prog w = .ok (.string (t.extract 0 j)) w := by
  subst hi
  rw [run_slice_string_h w 9 t Tryz.underlying9 .i64 (j : Int) (by omega) (by omega)]
  simp
theorem extract_all (t : ByteArray) : t.extract 0 t.size = t := by simp
theorem inflA_ok {t : ByteArray} {k : Nat} {L : List UInt8} (ht : t.size ≤ 20000) (h : inflS t.data.toList 20000 = .ok k L) : inflA t 20000 = #[.string ⟨L.toArray⟩, .int .i64 (((k + 7) / 8 : Nat) : Int), .int .i64 0] := by
  unfold inflA
  rw [if_neg (by omega)]
  have : (20000 : Int).toNat = 20000 := rfl
  rw [this, h]
set_option maxHeartbeats 1000000 in
set_option maxRecDepth 8000 in
theorem deflated_in {er : Errs} (s : ByteArray) (hs : s.size ≤ 20000) (w : World) (he : er.Full w) :
    Calls Tryz.prog 5 #[.string s] w fun e w' => e = .returned (.bool true) ∧ Below w.heap.size w w' := by
  have hss : s.data.toList.length = s.size := by simp
  have hd : ¬ (20000 : Int) < (s.size : Int) := by omega
  have hdb : decide ((20000 : Int) < (s.size : Int)) = false := decide_eq_false hd
  go_enter Tryz.func5, Tryz.ntmps5
  go_upto_region 4 with (go_at_call 9; refine (deflate_in s hs _ he).mono ?_; rintro e w1 ⟨out, rfl, hD, hb1⟩; have HD := (show Hid (DefOf s.data.toList out) from hD); have HB1 := (show Hid (Below w.heap.size w w1) from hb1); clear hD hb1)
  obtain ⟨t, HT⟩ := hid_intro (⟨out.toArray⟩ : ByteArray)
  rw [← HT.out]
  have htl : t.data.toList = out := by rw [HT.out]
  have hts : t.size = out.length := by rw [HT.out]; simp [ByteArray.size]
  have hlen : t.size ≤ s.size + 5 := by have := HD.out.2.1; omega
  have HTL := (show Hid _ from htl)
  have HTS := (show Hid _ from hts)
  clear htl hts
  by_cases hbig : 20000 < t.size
  · have hbi : (20000 : Int) < (t.size : Int) := by omega
    have hle : (t.size : Int) ≤ (s.size : Int) + 5 := by omega
    have hc := fun w => cut_str t 20000 20000 rfl (by omega) w
    have HRF := (show Hid _ from fun w => refInflate_any (t.extract 0 20000) 20000 w)
    obtain ⟨x, n, c, hx⟩ := inflA_form (t.extract 0 20000) 20000
    rw [hx] at HRF
    have hmin : min (t.size : Int) 20000 = 20000 := by omega
    clear hx HD
    go_wp2_with (go_at_call 7; refine Calls.mono (HRF.out _) ?_; rintro e w2 ⟨rfl, hb2⟩)
    go_ret
    exact ⟨by simp, HB1.out.trans (hb2.mono HB1.out.size)⟩
  · have hbi : ¬ (20000 : Int) < (t.size : Int) := by omega
    have htb : decide ((20000 : Int) < (t.size : Int)) = false := decide_eq_false hbi
    have hc := fun w => cut_str t (t.size : Int) t.size rfl (Nat.le_refl _) w
    rw [extract_all] at hc
    have HRF := (show Hid _ from fun w => refInflate_any t 20000 w)
    obtain ⟨⟨k, hk1, hk2⟩, _, hone⟩ := HD.out
    rw [inflA_ok (t := t) (k := k) (L := s.data.toList) (by omega) (by rw [HTL.out]; exact hk1)] at HRF
    have e1 : (⟨s.data.toList.toArray⟩ : ByteArray) = s := by cases s; simp
    rw [e1] at HRF
    rw [← HTS.out] at hk2
    rw [hk2] at HRF
    have hmin : min (t.size : Int) 20000 = (t.size : Int) := by omega
    have hle : (t.size : Int) ≤ (s.size : Int) + 5 := by omega
    have HONE : Hid (Same s.data.toList → t.size ≤ 20 + s.size / 100) := fun h => by have := hone h; rw [hss] at this; have := HTS.out; omega
    have hb1 : (s.toList == s.toList) = true := by simp
    clear hk1 hk2 hone HD e1
    go_wp2_with (go_at_call 7; refine Calls.mono (HRF.out _) ?_; rintro e w2 ⟨rfl, hb2⟩)
    have HB2 := (show Hid (Below w.heap.size w w2) from HB1.out.trans (hb2.mono HB1.out.size))
    clear hb2 HRF
    go_loopw [8, 9] (fun vo vi wr => ∃ (i m : Nat) (bo : Bool), 1 ≤ i ∧ vi = .int .i64 (i : Int) ∧ vo = .bool bo ∧ i ≤ s.size + 1 ∧ Hid (bo = true → ∀ j, j < i → j < s.size → s.data.toList.getD j 0 = s.data.toList.getD 0 0) ∧ wr = w2.drewN m) (fun _ vi _ => s.size - (intOf vi).toNat)
    case atStart => exact ⟨1, 0, true, by omega, rfl, rfl, by omega, fun _ j hj _ => by obtain rfl : j = 0 := (by omega); rfl, (World.drewN_zero _).symm⟩
    case round =>
      obtain ⟨i, m, bo, hi1, rfl, rfl, hi2, HS, hw⟩ := hrel
      rw [hw]; clear hw
      by_cases hlt : i < s.size
      · have q1 := fun w => idx_str s (i : Int) i rfl hlt w
        have q2 := fun w => idx_str s 0 0 rfl (by omega) w
        rw [byte_at s i hlt] at q1
        rw [byte_at s 0 (by omega)] at q2
        obtain ⟨x, HX⟩ := hid_intro (s.data.toList.getD i 0)
        obtain ⟨y, HY⟩ := hid_intro (s.data.toList.getD 0 0)
        rw [← HX.out] at q1
        rw [← HY.out] at q2
        cases bo with
        | false =>
          go_wp2
          go_quiet (fail)
          go_wp2
          go_roundw
          case rel => exact ⟨i + 1, m + nq, false, by omega, by go_num, rfl, by omega, (fun h => by cases h), by first | rfl | rw [World.drewN_drewN]⟩
          case measure => simp [intOf]; omega
        | true =>
          obtain ⟨E, HE⟩ := hid_intro ((x.toNat : Int) == (y.toNat : Int))
          have hE := HE.out.symm
          have HS2 : Hid (E = true → ∀ j, j < i + 1 → j < s.size → s.data.toList.getD j 0 = s.data.toList.getD 0 0) := fun h j hj hjs => by
            by_cases hji : j < i
            · exact HS.out rfl j hji hjs
            · obtain rfl : j = i := by omega
              have h2 : ((x.toNat : Int) == (y.toNat : Int)) = true := by rw [← HE.out]; exact h
              have h3 : (x.toNat : Int) = (y.toNat : Int) := beq_iff_eq.1 h2
              rw [← HX.out, ← HY.out]
              exact UInt8.toNat_inj.1 (by omega)
          go_wp2
          go_quiet (fail)
          go_wp2
          go_roundw
          case rel => exact ⟨i + 1, m + nq, E, by omega, by go_num, rfl, by omega, HS2, by first | rfl | rw [World.drewN_drewN]⟩
          case measure => simp [intOf]; omega
      · have HBM : Hid (Below w.heap.size w (w2.drewN m)) := below_drewN HB2.out m
        cases bo with
        | false =>
          go_wp2
          go_ret
          exact ⟨by simp, HBM.out⟩
        | true =>
          have hSame : Same s.data.toList := fun j hj => HS.out rfl j (by omega) (by omega)
          have h20 := HONE.out hSame
          have h20i : (t.size : Int) ≤ 20 + (s.size : Int) / 100 := by omega
          clear hSame h20
          go_wp2
          go_ret
          exact ⟨by simp, HBM.out⟩
end Go.Proofs.YtecpfilkbiknoaaGreatDoor

namespace Go.Proofs.YtecpfilkbiknoaaGreatDoor
open Go.RowKit

theorem deflated_any {er : Errs} (s : ByteArray) (w : World) (he : er.Full w) :
    Calls Tryz.prog 5 #[.string s] w fun e w' => e = .returned (.bool true) ∧ Below w.heap.size w w' := by
  by_cases h : s.size ≤ 20000
  · exact deflated_in s h w he
  · exact deflated_many s (by omega) w he
set_option maxHeartbeats 1000000 in
set_option maxRecDepth 8000 in
theorem streamsLaw {er : Errs} (s : ByteArray) (lim : Int) (t : ByteArray) (w : World) (he : er.Full w) :
    Calls Tryz.prog 3 #[.string s, .int .i64 lim, .string t] w fun e w' => e = .returned (.bool true) ∧ Below w.heap.size w w' := by
  have HE := (show Hid (er.Full w) from he)
  clear he
  go_enter Tryz.func3, Tryz.ntmps3
  have first1 : True := trivial
  have second1 : True := trivial
  go_wp2_with (first
    | (go_at_call 4; have := first1; refine (inflated_any _ _ _ HE.out).mono ?_; rintro e w1 ⟨rfl, hb1⟩; have HE1 := (show Hid (er.Full w1) from HE.out.below hb1); clear first1)
    | (go_at_call 5; have := second1; refine (deflated_any _ _ HE1.out).mono ?_; rintro e w2 ⟨rfl, hb2⟩; have HE2 := (show Hid (er.Full w2) from HE1.out.below hb2); clear second1)
    | (go_at_call 4; refine (inflated_any _ _ _ HE2.out).mono ?_; rintro e w3 ⟨rfl, hb3⟩; have HE3 := (show Hid (er.Full w3) from HE2.out.below hb3))
    | (go_at_call 5; refine (deflated_any _ _ HE3.out).mono ?_; rintro e w4 ⟨rfl, hb4⟩))
  go_ret
  have h2 := hb1.trans (hb2.mono hb1.size)
  have h3 := h2.trans (hb3.mono h2.size)
  exact ⟨rfl, h3.trans (hb4.mono h3.size)⟩
end Go.Proofs.YtecpfilkbiknoaaGreatDoor
