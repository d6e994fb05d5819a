/- The law's look at ReadLock and PrintLock, where a line may not be. -/
import Derived.Test.YtjngbcbkapjkhaaGreatDoorLkR
namespace Go.Proofs.YtjngbcbkapjkhaaGreatDoor.Lk
open Go.RowKit Go.Proofs.YtjngbcbkapjkhaaGreatDoor

set_option maxRecDepth 8000 in
set_option maxHeartbeats 2000000 in
theorem locks_bad (B p : Nat) (s : ByteArray) (l : List M) (ao : Option Addr) (cap : Nat) (w : World) (hA : Ask w B p s l ao cap) (hb0 : (readL s.data.toList []).1 ≠ 0) :
    Calls Tryz.prog 13 #[.pointer (some ⟨p, 0, none⟩), .string s, .slice ao l.length cap] w fun r w' => r = .returned (.bool true) ∧ Below B w w' ∧ ∃ k v, k ≤ 10 ∧ Kept w' B p k v := by
  have HA : Hid (Ask w B p s l ao cap) := hA
  have hpl := lt_of_block hA.blk
  have hBp := hA.hBp
  have hB : B ≤ w.heap.size := by omega
  have hl := hA.hl
  have HC1 := (show Hid _ from bReadLock_any s (by have := hA.hs; omega))
  have HC2 := (show Hid _ from rReadLock_any s hA.hs)
  have hR := readL_len s.data.toList
  have hRn := readL_none s.data.toList []
  obtain ⟨R, HR⟩ := hid_intro (readL s.data.toList [])
  rw [← HR.out] at HC1 HC2 hR hRn hb0
  obtain ⟨L, HLL⟩ := hid_intro R.2
  rw [← HLL.out] at HC1 HC2 hR hRn
  obtain ⟨bad, HBAD⟩ := hid_intro R.1
  rw [← HBAD.out] at HC1 HC2 hRn hb0
  obtain ⟨k, HK⟩ := hid_intro L.length
  rw [← HK.out] at HC1 HC2 hR
  obtain ⟨n, HN⟩ := hid_intro l.length
  rw [← HN.out] at hl ⊢
  clear hA
  have hL := hRn hb0
  have HK0 : Hid (k = 0) := by show _ = _; rw [HK.out, hL]; rfl
  have he8 : errOf bad = 8 := if_neg hb0
  rw [he8] at HC1
  have d9 : ((bad : Int) == 0) = false := beq_eq_false_iff_ne.2 (by omega)
  clear hRn he8 hL
  go_enter Tryz.func13, Tryz.ntmps13
  go_wp2_with (first
    | (go_at_call 36; refine (HC1.out _).mono ?_; clear HC1; rintro e w1 ⟨v1, rfl, ho1, hb1⟩; have HO1 := (show Hid (World.ownsRow w1 w.heap.size 25 3 v1 k (mcells L)) from ho1); have HB1 := (show Hid (Below w.heap.size w w1) from hb1); obtain ⟨a1, cap1, rfl⟩ := own_shape ho1; clear ho1 hb1)
    | (go_at_call 37; refine (HC2.out _).mono ?_; clear HC2; rintro e w2 ⟨v2, rfl, ho2, hb2⟩; have HO2 := (show Hid (World.ownsRow w2 w1.heap.size 25 3 v2 k (mcells L)) from ho2); have HB2 := (show Hid (Below w1.heap.size w1 w2) from hb2); obtain ⟨a2, cap2, rfl⟩ := own_shape ho2; clear ho2 hb2)
    | (go_at_call 21; refine (num_is _ _).mono ?_; rintro e w9 ⟨rfl, hw9⟩; rw [hw9]; clear hw9 w9))
  have HW2 : Hid (Below w.heap.size w w2) := HB1.out.trans (HB2.out.mono HB1.out.size)
  have HO3 : Hid (World.ownsRow w2 w.heap.size 25 3 (.slice a1 k cap1) k (mcells L)) := own_below HO1.out HB2.out
  go_loopw [12, 13] (fun vo vi wr => ∃ i q : Nat, i ≤ k ∧ vo = .bool true ∧ vi = .int .i64 i ∧ wr = w2.drewN q) (fun _ vi _ => k - (intOf vi).toNat)
  case atStart => exact ⟨0, 0, by omega, rfl, rfl, rfl⟩
  case round =>
    obtain ⟨i, q, hi, rfl, rfl, hw⟩ := hrel
    rw [hw]; clear hw
    by_cases hlt : i < k
    · exact absurd hlt (by have := HK0.out; omega)
    · obtain rfl : i = k := by omega
      have HKP : Hid (∀ q, Calls Tryz.prog 38 #[.pointer (some ⟨p, 1, none⟩), .slice a1 i cap1] (w2.drewN q) fun r w' => r = .returned (.tuple #[]) ∧ Kept w' B p i (.slice a1 i cap1) ∧ Below B (w2.drewN q) w') := fun q => keep_any B p i (.slice a1 i cap1) L (w2.drewN q) ((HW2.out.block p hpl).trans HA.out.blk) hBp (own_weaken HO3.out hB) HK.out hR (fun e => by have := (HO3.out.lt p e).1; omega) (by have := HW2.out.size; show B ≤ w2.heap.size; omega)
      have HLC : Hid (∀ w', Lies w' ao l → Calls Tryz.prog 39 #[.slice ao n cap] w' fun r w'' => r = .returned (.slice (some ⟨w'.heap.size, 0, none⟩) (n + 3) (n + 3)) ∧ RowIs w'' w'.heap.size (lent l 3) ∧ Below w'.heap.size w' w'') := fun w' h => by rw [HN.out]; exact locked_any l HA.out.hl ao cap w' h
      have HLN : Hid (∀ g w', Calls Tryz.prog 41 #[.slice (some ⟨g, 0, none⟩) (n + 3) (n + 3), .slice ao n cap] w' fun r w'' => ∃ lv, r = .returned lv ∧ w'' = w' ∧ ((l = [] ∧ lv = .slice none 0 0) ∨ lv = .slice (some ⟨g, 0, none⟩) l.length (l.length + 3))) := fun g w' => by rw [HN.out]; exact lent_is l HA.out.hl g ao cap HA.out.hnil w'
      have HWH : Hid (∀ g w', RowIs w' g (lent l 3) → Lies w' ao l → Calls Tryz.prog 42 #[.slice (some ⟨g, 0, none⟩) (n + 3) (n + 3), .slice ao n cap] w' fun r w'' => r = .returned (.bool true) ∧ Below g w' w'') := fun g w' h1 h2 => by rw [HN.out]; exact whole_any l HA.out.hl g ao cap g w' (Nat.le_refl _) h1 h2
      have HRL : Hid (∀ w', Lies w' ao l → Calls Tryz.prog 43 #[.slice ao n cap] w' fun r w'' => r = .returned (.int .i64 (firstBad l : Int)) ∧ ∃ q, w'' = w'.drewN q) := fun w' h => by rw [HN.out]; exact rLocks_any l HA.out.hl HA.out.fit ao cap w' h
      have HRP : Hid (∀ w', AllOk l → Lies w' ao l → Calls Tryz.prog 44 #[.slice ao n cap] w' fun r w'' => r = .returned (.string ⟨(printL l).toArray⟩) ∧ ∃ q, w'' = w'.drewN q) := fun w' h1 h => by rw [HN.out]; exact rPrintLock_any l h1 ao cap w' h
      have HPL : Hid (∀ v w', ((l = [] ∧ v = .slice none 0 0) ∨ ∃ g cap, v = .slice (some ⟨g, 0, none⟩) l.length cap ∧ l.length ≤ cap ∧ cap ≤ 9223372036854775807 ∧ Row w' g l) → Calls Tryz.prog 40 #[v] w' fun r w'' => r = .returned (.tuple #[.string ⟨(outL l).toArray⟩, .int .i64 (errOf (firstBad l)), .int .i64 (firstBad l : Int)]) ∧ Below w'.heap.size w' w'') := fun v w' h => bPrintLock_any l HA.out.hl HA.out.fit v w' h
      have hfl := firstBad_le l
      rw [← HN.out] at hfl
      have hcs := firstBad_cases l
      have hou := @outL_ok l
      have hob := @outL_bad l
      have HLI : Hid (∀ w', Below B w w' → Lies w' ao l) := fun w' h => HA.out.lies.low h HA.out.low
      obtain ⟨fb, HFB⟩ := hid_intro (firstBad l)
      rw [← HFB.out] at HRL HPL hfl hcs hou hob
      have HBW : Hid (Below B w (w2.drewN q)) := below_drewN (HW2.out.mono hB) q
      by_cases hfb : fb = 0
      · subst hfb
        have hall : AllOk l := by
          rcases hcs with ⟨_, h⟩ | ⟨i, _, h, _⟩
          · exact h
          · omega
        rw [hou rfl] at HPL
        rw [show errOf 0 = 0 from rfl, show ((0 : Nat) : Int) = 0 from rfl] at HPL
        rw [show ((0 : Nat) : Int) = 0 from rfl] at HRL
        have HALL := (show Hid (AllOk l) from hall)
        clear hcs hou hob hall
        obtain ⟨pt, HPT⟩ := hid_intro (printL l)
        rw [← HPT.out] at HPL HRP
        go_wp2_with (first
          | (go_at_call 38; refine (HKP.out _).mono ?_; clear HKP; rintro e w3 ⟨rfl, hk3, hb3⟩; have HK3 := (show Hid (Kept w3 B p i (.slice a1 i cap1)) from hk3); have HB3 : Hid (Below B w w3) := HBW.out.trans hb3; clear hk3 hb3)
          | (go_at_call 39; refine (HLC.out _ (HLI.out _ HB3.out)).mono ?_; clear HLC; rintro e w4 ⟨rfl, hr4, hb4⟩; have HR4 := (show Hid (RowIs w4 w3.heap.size (lent l 3)) from hr4); have HB4 := (show Hid (Below w3.heap.size w3 w4) from hb4); clear hr4 hb4)
          | (go_at_call 41; refine (HLN.out _ _).mono ?_; clear HLN; rintro e w9 ⟨lv, rfl, hw9, hlv⟩; rw [hw9]; clear hw9 w9; have HLV := (show Hid (_ ∨ _) from hlv); clear hlv)
          | (go_at_call 40; refine (HPL.out _ _ (lent_row HLV.out HR4.out HA.out.hl)).mono ?_; clear HPL; rintro e w5 ⟨rfl, hb5⟩; have HB5 := (show Hid (Below w4.heap.size w4 w5) from hb5); clear hb5)
          | (go_at_call 42; refine (HWH.out _ _ (HR4.out.below HB5.out) (HLI.out _ (low_trans HB3.out HB4.out HB5.out (by have := HB3.out.size; omega)))).mono ?_; clear HWH; rintro e w6 ⟨rfl, hb6⟩; have HB6 : Hid (Below B w w6) := (low_trans HB3.out HB4.out HB5.out (by have := HB3.out.size; omega)).trans (hb6.mono (by have := HB3.out.size; omega)); have HK6 : Hid (Kept w6 B p i (.slice a1 i cap1)) := HK3.out.below ((HB4.out.trans (HB5.out.mono HB4.out.size)).trans hb6); clear hb6)
          | (go_at_call 43; refine (HRL.out _ (HLI.out _ HB6.out)).mono ?_; clear HRL; rintro e w7 ⟨rfl, q7, hw7⟩; rw [hw7]; clear hw7 w7; have HB7 : Hid (Below B w (w6.drewN q7)) := below_drewN HB6.out q7; have HKF : Hid (Kept (w6.drewN q7) B p i (.slice a1 i cap1)) := HK6.out.below (below_drewN (Below.refl _ w6) q7))
          | (go_at_call 21; refine (num_is _ _).mono ?_; rintro e w9 ⟨rfl, hw9⟩; rw [hw9]; clear hw9 w9)
          | (go_at_call 44; refine (HRP.out _ HALL.out (HLI.out _ HB7.out)).mono ?_; clear HRP; rintro e w8 ⟨rfl, q8, hw8⟩; rw [hw8]; clear hw8 w8; have HB7' : Hid (Below B w (w6.drewN (q7 + q8))) := below_drewN HB6.out _; have HKF' : Hid (Kept (w6.drewN (q7 + q8)) B p i (.slice a1 i cap1)) := HK6.out.below (below_drewN (Below.refl _ w6) _); clear HB7 HKF; have HB7 := HB7'; have HKF := HKF'; clear HB7' HKF'))
        go_ret
        exact ⟨rfl, HB7.out, _, _, hR, HKF.out⟩
      · rw [hob hfb] at HPL
        have he8 : errOf fb = 8 := if_neg hfb
        rw [he8] at HPL
        have d0 : decide (0 < (fb : Int)) = true := decide_eq_true (by omega)
        have d1 : 0 < fb := by omega
        clear hcs hou hob he8
        go_wp2_with (first
          | (go_at_call 38; refine (HKP.out _).mono ?_; clear HKP; rintro e w3 ⟨rfl, hk3, hb3⟩; have HK3 := (show Hid (Kept w3 B p i (.slice a1 i cap1)) from hk3); have HB3 : Hid (Below B w w3) := HBW.out.trans hb3; clear hk3 hb3)
          | (go_at_call 39; refine (HLC.out _ (HLI.out _ HB3.out)).mono ?_; clear HLC; rintro e w4 ⟨rfl, hr4, hb4⟩; have HR4 := (show Hid (RowIs w4 w3.heap.size (lent l 3)) from hr4); have HB4 := (show Hid (Below w3.heap.size w3 w4) from hb4); clear hr4 hb4)
          | (go_at_call 41; refine (HLN.out _ _).mono ?_; clear HLN; rintro e w9 ⟨lv, rfl, hw9, hlv⟩; rw [hw9]; clear hw9 w9; have HLV := (show Hid (_ ∨ _) from hlv); clear hlv)
          | (go_at_call 40; refine (HPL.out _ _ (lent_row HLV.out HR4.out HA.out.hl)).mono ?_; clear HPL; rintro e w5 ⟨rfl, hb5⟩; have HB5 := (show Hid (Below w4.heap.size w4 w5) from hb5); clear hb5)
          | (go_at_call 42; refine (HWH.out _ _ (HR4.out.below HB5.out) (HLI.out _ (low_trans HB3.out HB4.out HB5.out (by have := HB3.out.size; omega)))).mono ?_; clear HWH; rintro e w6 ⟨rfl, hb6⟩; have HB6 : Hid (Below B w w6) := (low_trans HB3.out HB4.out HB5.out (by have := HB3.out.size; omega)).trans (hb6.mono (by have := HB3.out.size; omega)); have HK6 : Hid (Kept w6 B p i (.slice a1 i cap1)) := HK3.out.below ((HB4.out.trans (HB5.out.mono HB4.out.size)).trans hb6); clear hb6)
          | (go_at_call 43; refine (HRL.out _ (HLI.out _ HB6.out)).mono ?_; clear HRL; rintro e w7 ⟨rfl, q7, hw7⟩; rw [hw7]; clear hw7 w7; have HB7 : Hid (Below B w (w6.drewN q7)) := below_drewN HB6.out q7; have HKF : Hid (Kept (w6.drewN q7) B p i (.slice a1 i cap1)) := HK6.out.below (below_drewN (Below.refl _ w6) q7))
          | (go_at_call 21; refine (num_is _ _).mono ?_; rintro e w9 ⟨rfl, hw9⟩; rw [hw9]; clear hw9 w9))
        go_ret
        exact ⟨rfl, HB7.out, _, _, hR, HKF.out⟩
theorem locks_any (B p : Nat) (s : ByteArray) (l : List M) (ao : Option Addr) (cap : Nat) (w : World) (hA : Ask w B p s l ao cap) :
    Calls Tryz.prog 13 #[.pointer (some ⟨p, 0, none⟩), .string s, .slice ao l.length cap] w fun r w' => r = .returned (.bool true) ∧ Below B w w' ∧ ∃ k v, k ≤ 10 ∧ Kept w' B p k v := by
  by_cases h : (readL s.data.toList []).1 = 0
  · exact locks_ok B p s l ao cap w hA h
  · exact locks_bad B p s l ao cap w hA h
end Go.Proofs.YtjngbcbkapjkhaaGreatDoor.Lk
