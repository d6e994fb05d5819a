/- The program reads a lock file. -/
import Derived.Test.YtnmgebpccbachaaGreatDoorLkD
import Derived.Deep.AppendLies
namespace Go.Proofs.YtnmgebpccbachaaGreatDoor.Lk
open Go.RowKit Go.Proofs.YtnmgebpccbachaaGreatDoor

theorem Row.of_own {w : World} {B g cap : Nat} {l : List M} (h : w.ownsRow B 40 3 (.slice (some ⟨g, 0, none⟩) l.length cap) l.length (mcells l)) : Row w g l := by
  rcases h.2 with ⟨hv, _⟩ | ⟨b, cap', cur, hv, h1, hb, h2, h3, h4, h5⟩
  · cases hv
  · injection hv with hv _ _
    injection hv with hv
    injection hv with hv
    subst hv
    refine ⟨lt_of_block hb, fun j m hj => ?_⟩
    have hjl := (List.getElem?_eq_some_iff.1 hj).1
    obtain ⟨c1, c2, c3⟩ := mcells_get l j m hj
    have key : ∀ i, i < l.length * 3 → cur[i]? = (mcells l)[i]? := fun i hi => by
      rw [← h5, List.getElem?_take_of_lt hi, Array.getElem?_toList]
    refine ⟨?_, ?_, ?_⟩
    · rw [cell_of_row _ _ _ _ _ _ hb, key _ (by omega)]; exact c1
    · rw [cell_of_row _ _ _ _ _ _ hb, key _ (by omega)]; exact c2
    · rw [cell_of_row _ _ _ _ _ _ hb, key _ (by omega)]; exact c3
theorem own_mods {w : World} {B : Nat} {v : Value} {l : List M} (h : w.ownsRow B 40 3 v l.length (mcells l)) : (l = [] ∧ v = .slice none 0 0) ∨ ∃ g cap, v = .slice (some ⟨g, 0, none⟩) l.length cap ∧ Row w g l := by
  rcases h.2 with ⟨hv, h0⟩ | ⟨b, cap, cur, hv, rest⟩
  · exact .inl ⟨List.length_eq_zero_iff.1 h0, hv⟩
  · subst hv
    exact .inr ⟨b, cap, rfl, Row.of_own h⟩
theorem infoLocked : (Tryz.prog.info? 40).map (fun i => (i.zero, i.size, i.bytes)) = some (some (.agg #[.string ⟨#[]⟩, .string ⟨#[]⟩, .string ⟨#[]⟩]), 3, 48) := by kernel_rfl
theorem str_ne {l : List UInt8} (h : l ≠ []) : (l == []) = false := beq_eq_false_iff_ne.2 h
def errOf (bad : Nat) : Int := if bad = 0 then 0 else 8
theorem cut_head_le {c : UInt8} (l : List UInt8) : (cutB c l).1.length ≤ l.length := by
  cases h : (cutB c l).2.2 with
  | true =>
    have := congrArg List.length (cut_hit h).1
    simp at this; omega
  | false => rw [(cut_miss h).1]; exact Nat.le_refl _
theorem cell_three_new (w : World) (a b c : Value) (t : TypeId) (j : Nat) (u : Value) (h : [a, b, c][j]? = some u) : (w.alloc (.cells #[a, b, c] t (0, 0))).cell? ⟨w.heap.size, j, none⟩ = some u := by
  rw [cell_of_row _ _ j _ _ _ (heap_alloc_new w _), ← h]; simp
theorem cell_three_add (w : World) (a b c : Value) (t : TypeId) (j : Nat) (u : Value) (h : [a, b, c][j]? = some u) : (w.alloc (.cells #[a, b, c] t (0, 0))).cell? ((⟨w.heap.size, 0, none⟩ : Addr).add j) = some u := by
  have e : (⟨w.heap.size, 0, none⟩ : Addr).add j = ⟨w.heap.size, j, none⟩ := by simp [Addr.add]; omega
  rw [e]; exact cell_three_new w a b c t j u h
set_option maxRecDepth 8000 in
set_option maxHeartbeats 1000000 in
theorem lRead_any (s : ByteArray) (hs : s.size ≤ 9223372036854775807) (w : World) : Calls Tryz.prog 142 #[.string s] w fun r w' => ∃ v, r = .returned (.tuple #[v, .int .i64 (errOf (readL s.data.toList []).1), .int .i64 ((readL s.data.toList []).1 : Int)]) ∧ w'.ownsRow w.heap.size 40 3 v (readL s.data.toList []).2.length (mcells (readL s.data.toList []).2) ∧ Below w.heap.size w w' := by
  obtain ⟨R, HR⟩ := hid_intro (readL s.data.toList [])
  rw [← HR.out]
  obtain ⟨i0, hi0, hz0, hz1, hz2⟩ := info_parts infoLocked
  go_enter Tryz.func142, Tryz.ntmps142
  go_wp2
  go_loopw [0, 5] (fun vs vo wr => ∃ (sl : List UInt8) (l : List M), vs = .string ⟨sl.toArray⟩ ∧ Hid (sl.length ≤ s.size) ∧ Hid (AllOk l) ∧ Hid (R = readL sl l) ∧ Hid (wr.ownsRow w.heap.size 40 3 vo l.length (mcells l)) ∧ Below w.heap.size w wr) (fun vs _ _ => match vs with | .string b => b.size | _ => 0)
  case atStart => exact ⟨s.data.toList, [], rfl, Nat.le_of_eq (len_data s), AllOk.nil, HR.out, World.ownsRow_nil _ _ _ _, Below.refl ..⟩
  case round =>
    obtain ⟨sl, l, rfl, HS, HA, HL, HO, hb⟩ := hrel
    have hbs := hb.size
    have h10 := HA.out.le
    by_cases h0 : sl = []
    · subst h0
      go_wp2
      go_ret3
      have e := HL.out
      rw [readL_end] at e
      subst e
      exact ⟨_, rfl, HO.out, hb⟩
    · have hne := str_ne h0
      have hz : (⟨sl.toArray⟩ : ByteArray).size ≤ 9223372036854775807 := by have := HS.out; simp [ByteArray.size]; omega
      have HC := (show Hid _ from sCut_one ⟨sl.toArray⟩ hz 10)
      rw [show (⟨sl.toArray⟩ : ByteArray).data.toList = sl by simp] at HC
      have hza : (⟨(cutB 10 sl).1.toArray⟩ : ByteArray).size ≤ 9223372036854775807 := by
        have e : (⟨(cutB 10 sl).1.toArray⟩ : ByteArray).size = (cutB 10 sl).1.length := by simp [ByteArray.size]
        have e2 : (cutB 10 sl).1.length ≤ sl.length := cut_head_le sl
        have := HS.out
        omega
      have HRL := (show Hid _ from readLine_any ⟨(cutB 10 sl).1.toArray⟩ hza)
      rw [show (⟨(cutB 10 sl).1.toArray⟩ : ByteArray).data.toList = (cutB 10 sl).1 by simp] at HRL
      have HB2 : Hid ((cutB 10 sl).2.1.length ≤ s.size) := Nat.le_trans (cut_rest_le sl) HS.out
      have HMF : Hid (∀ m w', Below wr.heap.size wr w' → Calls Tryz.prog 203 #[u5, .agg (mv m)] w' fun r w'' => r = .returned (.bool (mayB l m)) ∧ Below w'.heap.size w' w'') := fun m w' hb' => mayFollow_any l m u5 w' (by omega) (own_mods (own_below HO.out hb'))
      obtain ⟨n, HN⟩ := hid_intro l.length
      rw [← HN.out] at h10 HO
      cases hf : (cutB 10 sl).2.2 with
      | false =>
        obtain ⟨ao, cap, rfl⟩ := own_shape HO.out
        have HE := (show Hid _ from readL_miss (l := l) h0 hf)
        rw [hf] at HC
        clear hf HMF
        obtain ⟨a, HAA⟩ := hid_intro (cutB 10 sl).1
        obtain ⟨b, HBB⟩ := hid_intro (cutB 10 sl).2.1
        rw [← HAA.out, ← HBB.out] at HC
        rw [← HAA.out] at HRL
        obtain ⟨m, HMM⟩ := hid_intro (lineM a)
        rw [← HMM.out] at HRL
        go_wp2_with (first
          | (go_at_call 121; refine (HC.out _).mono ?_; clear HC; rintro e w2 ⟨rfl, n1, hw2⟩; rw [hw2]; clear hw2)
          | (go_at_call 202; refine (HRL.out _).mono ?_; clear HRL; rintro e w3 ⟨rfl, hb3⟩; have HB3 := (show Hid _ from hb3); clear hb3; unfold mv))
        go_ret3
        have hb3 : Below w.heap.size w w3 := hb.trans ((below_drewN (Below.refl _ wr) n1).trans (HB3.out.mono hbs))
        have eR := HL.out.trans HE.out
        refine ⟨_, ?_, by rw [eR]; exact World.ownsRow_nil _ _ _ _, hb3.alloc hb3.size _⟩
        rw [eR, ← HN.out]
        rfl
      | true =>
        cases hm : mayB l (lineM (cutB 10 sl).1) with
        | false =>
          obtain ⟨ao, cap, rfl⟩ := own_shape HO.out
          have HE := (show Hid _ from readL_bad (l := l) h0 hm)
          have HM2 := HMF.out (lineM (cutB 10 sl).1)
          rw [hm] at HM2
          have HMG := (show Hid _ from HM2)
          rw [hf] at HC
          clear hf HMF hm HM2
          obtain ⟨a, HAA⟩ := hid_intro (cutB 10 sl).1
          obtain ⟨b, HBB⟩ := hid_intro (cutB 10 sl).2.1
          rw [← HAA.out, ← HBB.out] at HC
          rw [← HAA.out] at HRL HMG
          obtain ⟨m, HMM⟩ := hid_intro (lineM a)
          rw [← HMM.out] at HRL HMG
          unfold mv at HMG
          go_wp2_with (first
            | (go_at_call 121; refine (HC.out _).mono ?_; clear HC; rintro e w2 ⟨rfl, n1, hw2⟩; rw [hw2]; clear hw2)
            | (go_at_call 202; refine (HRL.out _).mono ?_; clear HRL; rintro e w3 ⟨rfl, hb3⟩; have HB3 := (show Hid _ from hb3); clear hb3; unfold mv)
            | (go_at_call 203; refine (HMG.out _ (((below_drewN (Below.refl _ wr) n1).trans HB3.out).alloc (by have := HB3.out.size; simpa using this) _)).mono ?_; clear HMG; rintro e w4 ⟨rfl, hb4⟩; have HB4 := (show Hid _ from hb4); clear hb4))
          go_ret3
          have hb3 : Below w.heap.size w w3 := hb.trans ((below_drewN (Below.refl _ wr) n1).trans (HB3.out.mono hbs))
          have eR := HL.out.trans HE.out
          refine ⟨_, ?_, by rw [eR]; exact World.ownsRow_nil _ _ _ _, (hb3.alloc hb3.size _).trans (HB4.out.mono (by simp; have := hb3.size; omega))⟩
          rw [eR, ← HN.out]
          rfl
        | true =>
          have HE := (show Hid _ from readL_go (l := l) h0 hf hm)
          have HA2 : Hid (AllOk (l ++ [lineM (cutB 10 sl).1])) := HA.out.snoc hm
          have HM2 := HMF.out (lineM (cutB 10 sl).1)
          rw [hm] at HM2
          have HMG := (show Hid _ from HM2)
          rw [hf] at HC
          have HDEC := (show Hid _ from cut_rest_lt hf)
          clear hf HMF hm HM2
          obtain ⟨a, HAA⟩ := hid_intro (cutB 10 sl).1
          obtain ⟨b, HBB⟩ := hid_intro (cutB 10 sl).2.1
          rw [← HAA.out, ← HBB.out] at HC HE
          rw [← HBB.out] at HDEC HB2
          rw [← HAA.out] at HRL HMG HA2
          obtain ⟨m, HMM⟩ := hid_intro (lineM a)
          rw [← HMM.out] at HRL HMG HA2 HE
          unfold mv at HMG
          have HL2 : Hid (n + 1 = (l ++ [m]).length) := by show _ = _; rw [HN.out]; simp
          have HC2 := (show Hid _ from mcells_snoc l m)
          obtain ⟨E, HEE⟩ := hid_intro (mcells l)
          rw [← HEE.out] at HO HC2
          go_wp2_with (first
            | (go_at_call 121; refine (HC.out _).mono ?_; clear HC; rintro e w2 ⟨rfl, n1, hw2⟩; rw [hw2]; clear hw2)
            | (go_at_call 202; refine (HRL.out _).mono ?_; clear HRL; rintro e w3 ⟨rfl, hb3⟩; have HB3 := (show Hid _ from hb3); clear hb3; unfold mv)
            | (go_at_call 203; refine (HMG.out _ (((below_drewN (Below.refl _ wr) n1).trans HB3.out).alloc (by have := HB3.out.size; simpa using this) _)).mono ?_; clear HMG; rintro e w4 ⟨rfl, hb4⟩; have HB4 := (show Hid _ from hb4); have hc0 := (hb4.cell (p := ⟨w3.heap.size, 0, none⟩) (by simp)).trans (cell_three_new w3 _ _ _ 40 0 _ rfl); have hc1 := (hb4.cell (p := ⟨w3.heap.size, 1, none⟩) (by simp)).trans (cell_three_new w3 _ _ _ 40 1 _ rfl); have hc2 := (hb4.cell (p := ⟨w3.heap.size, 2, none⟩) (by simp)).trans (cell_three_new w3 _ _ _ 40 2 _ rfl); have HW4 : Hid (Below wr.heap.size wr w4) := (((below_drewN (Below.refl _ wr) n1).trans HB3.out).alloc (by have := HB3.out.size; simpa using this) _).trans (hb4.mono (by have := HB3.out.size; simp at this ⊢; omega)); clear hb4)
            | (at_builtin; refine wpList_append_lies _ rfl _ _ 28 rfl w.heap.size 40 i0 (.agg #[.string ⟨#[]⟩, .string ⟨#[]⟩, .string ⟨#[]⟩]) 3 48 Tryz.underlying28 hi0 hz0 hz1 hz2 rfl (by decide) _ n E rfl (World.ownsRow.alloc (own_below HO.out HW4.out) _) ⟨_, 0, none⟩ 1 1 [.string ⟨m.n.toArray⟩, .string ⟨m.v.toArray⟩, .string ⟨m.d.toArray⟩] rfl rfl (cell_three_add _ _ _ _ _) (by simp [Value.oneCell']) (by decide) (by unfold maxLen; omega) (by omega) (by simp; have := HW4.out.size; omega) _ rfl ?_; intro g2 cap2 w5 hown5 hg5 hat _; have HO5 := (show Hid _ from hown5); have HB5 : Hid (Below w.heap.size w w5) := grown_below ((hb.trans (HW4.out.mono hbs)).alloc (by have := HW4.out.size; omega) _) (World.ownsRow.alloc (own_below HO.out HW4.out) _) (Nat.le_refl _) (by simp; have := HW4.out.size; omega) hg5; clear hown5 hg5 hat))
          go_roundw
          case rel =>
            refine ⟨b, l ++ [m], rfl, HB2, HA2, HL.out.trans HE.out, ?_, HB5.out⟩
            rw [← HL2.out, HC2.out]
            exact HO5
          case measure =>
            have := HDEC.out
            simpa [ByteArray.size] using this
end Go.Proofs.YtnmgebpccbachaaGreatDoor.Lk
