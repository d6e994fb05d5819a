/- The law's look at ReadLock and PrintLock. -/
import Derived.Test.YtjngbcbkapjkhaaGreatDoorLkI
import Derived.Test.YtjngbcbkapjkhaaGreatDoorSuShelf
import Derived.Test.YtjngbcbkapjkhaaGreatDoorLkQ
namespace Go.Proofs.YtjngbcbkapjkhaaGreatDoor.Lk
open Go.RowKit Go.Proofs.YtjngbcbkapjkhaaGreatDoor

theorem num_is (n : Int) (w : World) : Calls Tryz.prog 21 #[.int .i64 n] w fun e w' => e = .returned (.int .i64 n) ∧ w' = w := by
  go_enter Tryz.func21, Tryz.ntmps21
  go_wp2
  go_ret
  exact ⟨rfl, rfl⟩
theorem Kept.below {w w' : World} {B p n : Nat} {v : Value} (h : Kept w B p n v) (hb : Below w.heap.size w w') : Kept w' B p n v := by
  obtain ⟨gb, cap, x, y, z, h1, h2, h3, c0, c1, c2, c3, o0, o1, o2, o3⟩ := h.ex
  exact ⟨gb, cap, x, y, z, (hb.block p (lt_of_block h1)).trans h1, h2, Nat.lt_of_lt_of_le h3 hb.size, (hb.cell h3).trans c0, (hb.cell h3).trans c1, (hb.cell h3).trans c2, (hb.cell h3).trans c3, o0.below hb, o1.below hb, o2.below hb, o3.below hb⟩
theorem lent_is (l : List M) (hl : l.length ≤ 1048576) (g : Nat) (ao : Option Addr) (cap : Nat) (hnil : ao = none → l = [] ∧ cap = 0) (w : World) : Calls Tryz.prog 41 #[.slice (some ⟨g, 0, none⟩) (l.length + 3) (l.length + 3), .slice ao l.length cap] w fun r w' => ∃ lv, r = .returned lv ∧ w' = w ∧ ((l = [] ∧ lv = .slice none 0 0) ∨ lv = .slice (some ⟨g, 0, none⟩) l.length (l.length + 3)) := by
  cases ao with
  | none =>
    obtain ⟨rfl, rfl⟩ := hnil rfl
    exact (lent_nil _ w).mono fun e w' ⟨h1, h2⟩ => ⟨_, h1, h2, .inl ⟨rfl, rfl⟩⟩
  | some a => exact (lent_some g l.length hl a cap w).mono fun e w' ⟨h1, h2⟩ => ⟨_, h1, h2, .inr rfl⟩
theorem readL_ok (s : List UInt8) (l : List M) (h : AllOk l) (hr : (readL s l).1 = 0) : (readL s l).2.length ≤ 10 := by
  by_cases h0 : s = []
  · subst h0; rw [readL_end]; exact h.le
  · cases hf : (cutB 10 s).2.2 with
    | false => rw [readL_miss h0 hf] at hr; cases hr
    | true =>
      cases hm : mayB l (lineM (cutB 10 s).1) with
      | false => rw [readL_bad h0 hm] at hr; cases hr
      | true =>
        rw [readL_go h0 hf hm] at hr ⊢
        exact readL_ok _ _ (h.snoc hm) hr
  termination_by s.length
  decreasing_by exact cut_rest_lt hf
theorem readL_none (s : List UInt8) (l : List M) (hr : (readL s l).1 ≠ 0) : (readL s l).2 = [] := by
  by_cases h0 : s = []
  · subst h0; rw [readL_end] at hr; exact absurd rfl hr
  · cases hf : (cutB 10 s).2.2 with
    | false => rw [readL_miss h0 hf]
    | true =>
      cases hm : mayB l (lineM (cutB 10 s).1) with
      | false => rw [readL_bad h0 hm]
      | true =>
        rw [readL_go h0 hf hm] at hr ⊢
        exact readL_none _ _ hr
  termination_by s.length
  decreasing_by exact cut_rest_lt hf
theorem readL_len (s : List UInt8) : (readL s []).2.length ≤ 10 := by
  by_cases h : (readL s []).1 = 0
  · exact readL_ok s [] AllOk.nil h
  · rw [readL_none s [] h]; simp
theorem firstBad_le (l : List M) : firstBad l ≤ l.length := by
  rcases firstBad_cases l with ⟨h, _⟩ | ⟨i, h1, h2, _⟩ <;> omega
/-- what the law is asked with -/
structure Ask (w : World) (B p : Nat) (s : ByteArray) (l : List M) (ao : Option Addr) (cap : Nat) : Prop where
  hs : s.size ≤ 1048576
  hl : l.length ≤ 1048576
  fit : Fit l
  hnil : ao = none → l = [] ∧ cap = 0
  lies : Lies w ao l
  blk : w.heap[p]? = some (.cells #[nilV, nilV, nilV, nilV, nilV] 39 (0, 0))
  hBp : B ≤ p
  low : ∀ a, ao = some a → l ≠ [] → a.block < B
theorem Lies.low {w w' : World} {B : Nat} {ao : Option Addr} {l : List M} (h : Lies w ao l) (hb : Below B w w') (hlow : ∀ a, ao = some a → l ≠ [] → a.block < B) : Lies w' ao l := by
  rcases h with h | ⟨g, o, h1, h2, h3⟩
  · exact .inl h
  · by_cases h0 : l = []
    · exact .inl h0
    have hg : g < B := hlow _ h1 h0
    exact .inr ⟨g, o, h1, Nat.lt_of_lt_of_le h2 hb.size, fun j m hj => by
      obtain ⟨c1, c2, c3⟩ := h3 j m hj
      exact ⟨(hb.cell hg).trans c1, (hb.cell hg).trans c2, (hb.cell hg).trans c3⟩⟩
theorem own_weaken {w : World} {B B' n z : Nat} {v : Value} {xs : List Value} {t : TypeId} (h : w.ownsRow B t z v n xs) (hB : B' ≤ B) : w.ownsRow B' t z v n xs := by
  refine ⟨h.1, ?_⟩
  rcases h.2 with hn | ⟨g, cap, cur, rfl, h1, rest⟩
  · exact .inl hn
  · exact .inr ⟨g, cap, cur, rfl, Nat.le_trans hB h1, rest⟩
theorem own_mod {w : World} {B k cap i : Nat} {ao : Option Addr} {L : List M} (h : w.ownsRow B 25 3 (.slice ao k cap) k (mcells L)) (hk : k = L.length) (hi : i < k) : ∃ g, ao = some ⟨g, 0, none⟩ ∧ w.cell? ⟨g, i * 3, none⟩ = some (.string ⟨(L.getD i zm).n.toArray⟩) ∧ w.cell? ⟨g, i * 3 + 1, none⟩ = some (.string ⟨(L.getD i zm).v.toArray⟩) ∧ w.cell? ⟨g, i * 3 + 2, none⟩ = some (.string ⟨(L.getD i zm).d.toArray⟩) := by
  subst hk
  rcases own_mods h with ⟨h0, _⟩ | ⟨g, cap', hv, hr⟩
  · rw [h0] at hi; simp at hi
  · injection hv with hv _ _
    refine ⟨g, hv, ?_⟩
    exact hr.at0 i _ (by rw [List.getElem?_eq_getElem hi, List.getD_eq_getElem?_getD, List.getElem?_eq_getElem hi]; rfl)
theorem lent_row {w : World} {g : Nat} {l : List M} {lv : Value} (h : (l = [] ∧ lv = .slice none 0 0) ∨ lv = .slice (some ⟨g, 0, none⟩) l.length (l.length + 3)) (hr : RowIs w g (lent l 3)) (hl : l.length ≤ 1048576) : (l = [] ∧ lv = .slice none 0 0) ∨ ∃ g cap, lv = .slice (some ⟨g, 0, none⟩) l.length cap ∧ l.length ≤ cap ∧ cap ≤ 9223372036854775807 ∧ Row w g l := by
  rcases h with h | h
  · exact .inl h
  · refine .inr ⟨g, l.length + 3, h, by omega, by omega, ⟨hr.row.lt, fun j m hj => hr.row.at0 j m ?_⟩⟩
    have hjl := (List.getElem?_eq_some_iff.1 hj).1
    unfold lent
    rw [List.getElem?_append_left hjl]; exact hj
theorem low_trans {B : Nat} {w w3 w4 w5 : World} (h3 : Below B w w3) (h4 : Below w3.heap.size w3 w4) (h5 : Below w4.heap.size w4 w5) (hB : B ≤ w3.heap.size) : Below B w w5 :=
  h3.trans ((h4.mono hB).trans (h5.mono (Nat.le_trans hB h4.size)))
set_option maxRecDepth 8000 in
set_option maxHeartbeats 2000000 in
theorem locks_ok (B p : Nat) (s : ByteArray) (l : List M) (ao : Option Addr) (cap : Nat) (w : World) (hA : Ask w B p s l ao cap) (hb0 : (readL s.data.toList []).1 = 0) :
    Calls Tryz.prog 13 #[.pointer (some ⟨p, 0, none⟩), .string s, .slice ao l.length cap] w fun r w' => r = .returned (.bool true) ∧ Below B w w' ∧ ∃ k v, k ≤ 10 ∧ Kept w' B p k v := by
  have HA : Hid (Ask w B p s l ao cap) := hA
  have hpl := lt_of_block hA.blk
  have hBp := hA.hBp
  have hB : B ≤ w.heap.size := by omega
  have hl := hA.hl
  have HC1 := (show Hid _ from bReadLock_any s (by have := hA.hs; omega))
  have HC2 := (show Hid _ from rReadLock_any s hA.hs)
  have hR := readL_len s.data.toList
  have hRn := readL_none s.data.toList []
  obtain ⟨R, HR⟩ := hid_intro (readL s.data.toList [])
  rw [← HR.out] at HC1 HC2 hR hRn hb0
  obtain ⟨L, HLL⟩ := hid_intro R.2
  rw [← HLL.out] at HC1 HC2 hR hRn
  obtain ⟨bad, HBAD⟩ := hid_intro R.1
  rw [← HBAD.out] at HC1 HC2 hRn hb0
  obtain ⟨k, HK⟩ := hid_intro L.length
  rw [← HK.out] at HC1 HC2 hR
  obtain ⟨n, HN⟩ := hid_intro l.length
  rw [← HN.out] at hl ⊢
  clear hA
  subst hb0
  rw [show errOf 0 = 0 from rfl, show ((0 : Nat) : Int) = 0 from rfl] at HC1
  rw [show ((0 : Nat) : Int) = 0 from rfl] at HC2
  clear hRn
  go_enter Tryz.func13, Tryz.ntmps13
  go_wp2_with (first
    | (go_at_call 36; refine (HC1.out _).mono ?_; clear HC1; rintro e w1 ⟨v1, rfl, ho1, hb1⟩; have HO1 := (show Hid (World.ownsRow w1 w.heap.size 25 3 v1 k (mcells L)) from ho1); have HB1 := (show Hid (Below w.heap.size w w1) from hb1); obtain ⟨a1, cap1, rfl⟩ := own_shape ho1; clear ho1 hb1)
    | (go_at_call 37; refine (HC2.out _).mono ?_; clear HC2; rintro e w2 ⟨v2, rfl, ho2, hb2⟩; have HO2 := (show Hid (World.ownsRow w2 w1.heap.size 25 3 v2 k (mcells L)) from ho2); have HB2 := (show Hid (Below w1.heap.size w1 w2) from hb2); obtain ⟨a2, cap2, rfl⟩ := own_shape ho2; clear ho2 hb2)
    | (go_at_call 21; refine (num_is _ _).mono ?_; rintro e w9 ⟨rfl, hw9⟩; rw [hw9]; clear hw9 w9))
  have HW2 : Hid (Below w.heap.size w w2) := HB1.out.trans (HB2.out.mono HB1.out.size)
  have HO3 : Hid (World.ownsRow w2 w.heap.size 25 3 (.slice a1 k cap1) k (mcells L)) := own_below HO1.out HB2.out
  go_loopw [12, 13] (fun vo vi wr => ∃ i q : Nat, i ≤ k ∧ vo = .bool true ∧ vi = .int .i64 i ∧ wr = w2.drewN q) (fun _ vi _ => k - (intOf vi).toNat)
  case atStart => exact ⟨0, 0, by omega, rfl, rfl, rfl⟩
  case round =>
    obtain ⟨i, q, hi, rfl, rfl, hw⟩ := hrel
    rw [hw]; clear hw
    by_cases hlt : i < k
    · obtain ⟨g1, hg1, x1, x2, x3⟩ := own_mod HO3.out HK.out hlt
      obtain ⟨g2, hg2, y1, y2, y3⟩ := own_mod HO2.out HK.out hlt
      subst hg1 hg2
      obtain ⟨m, HM⟩ := hid_intro (L.getD i zm)
      rw [← HM.out] at x1 x2 x3 y1 y2 y3
      go_wp2
      go_quiet (fail)
      go_wp2
      go_roundw
      case rel => exact ⟨i + 1, _, by omega, rfl, by go_num, by first | rfl | rw [World.drewN_drewN]⟩
      case measure => simp [intOf]; omega
    · obtain rfl : i = k := by omega
      have HKP : Hid (∀ q, Calls Tryz.prog 38 #[.pointer (some ⟨p, 1, none⟩), .slice a1 i cap1] (w2.drewN q) fun r w' => r = .returned (.tuple #[]) ∧ Kept w' B p i (.slice a1 i cap1) ∧ Below B (w2.drewN q) w') := fun q => keep_any B p i (.slice a1 i cap1) L (w2.drewN q) ((HW2.out.block p hpl).trans HA.out.blk) hBp (own_weaken HO3.out hB) HK.out hR (fun e => by have := (HO3.out.lt p e).1; omega) (by have := HW2.out.size; show B ≤ w2.heap.size; omega)
      have HLC : Hid (∀ w', Lies w' ao l → Calls Tryz.prog 39 #[.slice ao n cap] w' fun r w'' => r = .returned (.slice (some ⟨w'.heap.size, 0, none⟩) (n + 3) (n + 3)) ∧ RowIs w'' w'.heap.size (lent l 3) ∧ Below w'.heap.size w' w'') := fun w' h => by rw [HN.out]; exact locked_any l HA.out.hl ao cap w' h
      have HLN : Hid (∀ g w', Calls Tryz.prog 41 #[.slice (some ⟨g, 0, none⟩) (n + 3) (n + 3), .slice ao n cap] w' fun r w'' => ∃ lv, r = .returned lv ∧ w'' = w' ∧ ((l = [] ∧ lv = .slice none 0 0) ∨ lv = .slice (some ⟨g, 0, none⟩) l.length (l.length + 3))) := fun g w' => by rw [HN.out]; exact lent_is l HA.out.hl g ao cap HA.out.hnil w'
      have HWH : Hid (∀ g w', RowIs w' g (lent l 3) → Lies w' ao l → Calls Tryz.prog 42 #[.slice (some ⟨g, 0, none⟩) (n + 3) (n + 3), .slice ao n cap] w' fun r w'' => r = .returned (.bool true) ∧ Below g w' w'') := fun g w' h1 h2 => by rw [HN.out]; exact whole_any l HA.out.hl g ao cap g w' (Nat.le_refl _) h1 h2
      have HRL : Hid (∀ w', Lies w' ao l → Calls Tryz.prog 43 #[.slice ao n cap] w' fun r w'' => r = .returned (.int .i64 (firstBad l : Int)) ∧ ∃ q, w'' = w'.drewN q) := fun w' h => by rw [HN.out]; exact rLocks_any l HA.out.hl HA.out.fit ao cap w' h
      have HRP : Hid (∀ w', AllOk l → Lies w' ao l → Calls Tryz.prog 44 #[.slice ao n cap] w' fun r w'' => r = .returned (.string ⟨(printL l).toArray⟩) ∧ ∃ q, w'' = w'.drewN q) := fun w' h1 h => by rw [HN.out]; exact rPrintLock_any l h1 ao cap w' h
      have HPL : Hid (∀ v w', ((l = [] ∧ v = .slice none 0 0) ∨ ∃ g cap, v = .slice (some ⟨g, 0, none⟩) l.length cap ∧ l.length ≤ cap ∧ cap ≤ 9223372036854775807 ∧ Row w' g l) → Calls Tryz.prog 40 #[v] w' fun r w'' => r = .returned (.tuple #[.string ⟨(outL l).toArray⟩, .int .i64 (errOf (firstBad l)), .int .i64 (firstBad l : Int)]) ∧ Below w'.heap.size w' w'') := fun v w' h => bPrintLock_any l HA.out.hl HA.out.fit v w' h
      have hfl := firstBad_le l
      rw [← HN.out] at hfl
      have hcs := firstBad_cases l
      have hou := @outL_ok l
      have hob := @outL_bad l
      have HLI : Hid (∀ w', Below B w w' → Lies w' ao l) := fun w' h => HA.out.lies.low h HA.out.low
      obtain ⟨fb, HFB⟩ := hid_intro (firstBad l)
      rw [← HFB.out] at HRL HPL hfl hcs hou hob
      have HBW : Hid (Below B w (w2.drewN q)) := below_drewN (HW2.out.mono hB) q
      by_cases hfb : fb = 0
      · subst hfb
        have hall : AllOk l := by
          rcases hcs with ⟨_, h⟩ | ⟨i, _, h, _⟩
          · exact h
          · omega
        rw [hou rfl] at HPL
        rw [show errOf 0 = 0 from rfl, show ((0 : Nat) : Int) = 0 from rfl] at HPL
        rw [show ((0 : Nat) : Int) = 0 from rfl] at HRL
        have HALL := (show Hid (AllOk l) from hall)
        clear hcs hou hob hall
        obtain ⟨pt, HPT⟩ := hid_intro (printL l)
        rw [← HPT.out] at HPL HRP
        go_wp2_with (first
          | (go_at_call 38; refine (HKP.out _).mono ?_; clear HKP; rintro e w3 ⟨rfl, hk3, hb3⟩; have HK3 := (show Hid (Kept w3 B p i (.slice a1 i cap1)) from hk3); have HB3 : Hid (Below B w w3) := HBW.out.trans hb3; clear hk3 hb3)
          | (go_at_call 39; refine (HLC.out _ (HLI.out _ HB3.out)).mono ?_; clear HLC; rintro e w4 ⟨rfl, hr4, hb4⟩; have HR4 := (show Hid (RowIs w4 w3.heap.size (lent l 3)) from hr4); have HB4 := (show Hid (Below w3.heap.size w3 w4) from hb4); clear hr4 hb4)
          | (go_at_call 41; refine (HLN.out _ _).mono ?_; clear HLN; rintro e w9 ⟨lv, rfl, hw9, hlv⟩; rw [hw9]; clear hw9 w9; have HLV := (show Hid (_ ∨ _) from hlv); clear hlv)
          | (go_at_call 40; refine (HPL.out _ _ (lent_row HLV.out HR4.out HA.out.hl)).mono ?_; clear HPL; rintro e w5 ⟨rfl, hb5⟩; have HB5 := (show Hid (Below w4.heap.size w4 w5) from hb5); clear hb5)
          | (go_at_call 42; refine (HWH.out _ _ (HR4.out.below HB5.out) (HLI.out _ (low_trans HB3.out HB4.out HB5.out (by have := HB3.out.size; omega)))).mono ?_; clear HWH; rintro e w6 ⟨rfl, hb6⟩; have HB6 : Hid (Below B w w6) := (low_trans HB3.out HB4.out HB5.out (by have := HB3.out.size; omega)).trans (hb6.mono (by have := HB3.out.size; omega)); have HK6 : Hid (Kept w6 B p i (.slice a1 i cap1)) := HK3.out.below ((HB4.out.trans (HB5.out.mono HB4.out.size)).trans hb6); clear hb6)
          | (go_at_call 43; refine (HRL.out _ (HLI.out _ HB6.out)).mono ?_; clear HRL; rintro e w7 ⟨rfl, q7, hw7⟩; rw [hw7]; clear hw7 w7; have HB7 : Hid (Below B w (w6.drewN q7)) := below_drewN HB6.out q7; have HKF : Hid (Kept (w6.drewN q7) B p i (.slice a1 i cap1)) := HK6.out.below (below_drewN (Below.refl _ w6) q7))
          | (go_at_call 21; refine (num_is _ _).mono ?_; rintro e w9 ⟨rfl, hw9⟩; rw [hw9]; clear hw9 w9)
          | (go_at_call 44; refine (HRP.out _ HALL.out (HLI.out _ HB7.out)).mono ?_; clear HRP; rintro e w8 ⟨rfl, q8, hw8⟩; rw [hw8]; clear hw8 w8; have HB7' : Hid (Below B w (w6.drewN (q7 + q8))) := below_drewN HB6.out _; have HKF' : Hid (Kept (w6.drewN (q7 + q8)) B p i (.slice a1 i cap1)) := HK6.out.below (below_drewN (Below.refl _ w6) _); clear HB7 HKF; have HB7 := HB7'; have HKF := HKF'; clear HB7' HKF'))
        go_ret
        exact ⟨rfl, HB7.out, _, _, hR, HKF.out⟩
      · rw [hob hfb] at HPL
        have he8 : errOf fb = 8 := if_neg hfb
        rw [he8] at HPL
        have d0 : decide (0 < (fb : Int)) = true := decide_eq_true (by omega)
        have d1 : 0 < fb := by omega
        clear hcs hou hob he8
        go_wp2_with (first
          | (go_at_call 38; refine (HKP.out _).mono ?_; clear HKP; rintro e w3 ⟨rfl, hk3, hb3⟩; have HK3 := (show Hid (Kept w3 B p i (.slice a1 i cap1)) from hk3); have HB3 : Hid (Below B w w3) := HBW.out.trans hb3; clear hk3 hb3)
          | (go_at_call 39; refine (HLC.out _ (HLI.out _ HB3.out)).mono ?_; clear HLC; rintro e w4 ⟨rfl, hr4, hb4⟩; have HR4 := (show Hid (RowIs w4 w3.heap.size (lent l 3)) from hr4); have HB4 := (show Hid (Below w3.heap.size w3 w4) from hb4); clear hr4 hb4)
          | (go_at_call 41; refine (HLN.out _ _).mono ?_; clear HLN; rintro e w9 ⟨lv, rfl, hw9, hlv⟩; rw [hw9]; clear hw9 w9; have HLV := (show Hid (_ ∨ _) from hlv); clear hlv)
          | (go_at_call 40; refine (HPL.out _ _ (lent_row HLV.out HR4.out HA.out.hl)).mono ?_; clear HPL; rintro e w5 ⟨rfl, hb5⟩; have HB5 := (show Hid (Below w4.heap.size w4 w5) from hb5); clear hb5)
          | (go_at_call 42; refine (HWH.out _ _ (HR4.out.below HB5.out) (HLI.out _ (low_trans HB3.out HB4.out HB5.out (by have := HB3.out.size; omega)))).mono ?_; clear HWH; rintro e w6 ⟨rfl, hb6⟩; have HB6 : Hid (Below B w w6) := (low_trans HB3.out HB4.out HB5.out (by have := HB3.out.size; omega)).trans (hb6.mono (by have := HB3.out.size; omega)); have HK6 : Hid (Kept w6 B p i (.slice a1 i cap1)) := HK3.out.below ((HB4.out.trans (HB5.out.mono HB4.out.size)).trans hb6); clear hb6)
          | (go_at_call 43; refine (HRL.out _ (HLI.out _ HB6.out)).mono ?_; clear HRL; rintro e w7 ⟨rfl, q7, hw7⟩; rw [hw7]; clear hw7 w7; have HB7 : Hid (Below B w (w6.drewN q7)) := below_drewN HB6.out q7; have HKF : Hid (Kept (w6.drewN q7) B p i (.slice a1 i cap1)) := HK6.out.below (below_drewN (Below.refl _ w6) q7))
          | (go_at_call 21; refine (num_is _ _).mono ?_; rintro e w9 ⟨rfl, hw9⟩; rw [hw9]; clear hw9 w9))
        go_ret
        exact ⟨rfl, HB7.out, _, _, hR, HKF.out⟩
end Go.Proofs.YtjngbcbkapjkhaaGreatDoor.Lk
