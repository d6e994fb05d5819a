/- The document reads a series. -/
import Derived.Test.YtgfbbcnnmoamnaaGreatDoorTrM
import Derived.Deep.RegionHeld
namespace Go.Proofs.YtgfbbcnnmoamnaaGreatDoor.Tr
open Go.RowKit Go.Proofs.YtgfbbcnnmoamnaaGreatDoor Go.Proofs.YtgfbbcnnmoamnaaGreatDoor.Lk

/-- is a list a tree? -/
def treeB (l : List E) : Bool := (wrongE l 60 8000).1 == 0
set_option maxRecDepth 8000 in
set_option maxHeartbeats 1000000 in
theorem rTree_any (l : List E) (hl : l.length ≤ 1048576) (hft : FitE l) (ao : Option Addr) (cap : Nat) (w : World) (hat : LiesE w ao l) :
    Calls Tryz.prog 150 #[.slice ao l.length cap] w fun r w' => r = .returned (.bool (treeB l)) ∧ Below w.heap.size w w' := by
  have HC := toHid (rWrong_any l hl 60 8000 (by decide) (by decide) hft ao cap w hat)
  have hdef : treeB l = ((wrongE l 60 8000).1 == 0) := rfl
  rw [hdef]
  obtain ⟨a, HA⟩ := hid_intro (wrongE l 60 8000).1
  obtain ⟨b, HB⟩ := hid_intro (wrongE l 60 8000).2
  rw [← HA.out, ← HB.out] at HC
  rw [← HA.out]
  clear hat hft hdef
  go_enter Tryz.func150, Tryz.ntmps150
  go_wp2_with (go_at_call 76; refine HC.out.mono ?_; clear HC; rintro e w1 ⟨rfl, hb1⟩; have HB1 := toHid hb1; clear hb1)
  go_ret
  refine ⟨?_, HB1.out⟩
  have : ((a : Int) == 0) = (a == 0) := by
    rw [Bool.eq_iff_iff, beq_iff_eq, beq_iff_eq]; omega
  rw [← this]
  rfl
theorem sizeB_le : ∀ (l : List UInt8) (acc : Nat), acc ≤ 200009 → -1 ≤ sizeB acc l ∧ sizeB acc l ≤ 200009
  | [], acc, h => by rw [sizeB]; omega
  | c :: r, acc, h => by
    rw [sizeB]
    split
    · exact sizeB_le r _ (by omega)
    · omega
theorem lies_of {w : World} {B n cap : Nat} {ao : Option Addr} {l : List E} (h : w.ownsRow B 47 3 (.slice ao n cap) l.length (ecells l)) : LiesE w ao l := by
  obtain ⟨ao', cap', hv, hl⟩ := own_lies h
  injection hv with hv _ _
  rw [hv]; exact hl
theorem own_weak {w : World} {B B' n z : Nat} {v : Value} {xs : List Value} {t : TypeId} (h : w.ownsRow B t z v n xs) (hB : B' ≤ B) : w.ownsRow B' t z v n xs := by
  refine ⟨h.1, ?_⟩
  rcases h.2 with hn | ⟨g, cap, cur, rfl, h1, rest⟩
  · exact .inl hn
  · exact .inr ⟨g, cap, cur, rfl, Nat.le_trans hB h1, rest⟩
/-- the lines that the document takes -/
def loopR (s : List UInt8) : Option (List E) := if (cutB 10 s).2.2 = true then readR (cutB 10 s).2.1 [] else some []
/-- the tree whose series it is, as the document answers -/
def refA (s : List UInt8) : Option (List E) := (loopR s).bind fun l => if treeB l = true ∧ serE (sortE l) = s then some (sortE l) else none
set_option maxRecDepth 8000 in
set_option maxHeartbeats 1000000 in
theorem rRead_any (s : List UInt8) (hs : s.length ≤ 1048576) (w : World) : Calls Tryz.prog 139 #[.string ⟨s.toArray⟩] w fun r w' => ∃ v, r = .returned (.tuple #[v, .bool (refA s).isSome]) ∧ w'.ownsRow w.heap.size 47 3 v ((refA s).getD []).length (ecells ((refA s).getD [])) ∧ Below w.heap.size w w' := by
  have HC := (show Hid _ from rline_any ⟨s.toArray⟩ (by rw [size_of]; omega))
  rw [show cutB 10 (ByteArray.mk s.toArray).data.toList = cutB 10 s from rfl] at HC
  have hdef : refA s = (loopR s).bind fun l => if treeB l = true ∧ serE (sortE l) = s then some (sortE l) else none := rfl
  obtain ⟨R, HR⟩ := hid_intro (refA s)
  rw [← HR.out] at hdef ⊢
  have HDEF := toHid hdef
  clear hdef HR
  obtain ⟨i0, hi0, hz0, hz1, hz2⟩ := info_parts infoEntry
  have hal : (cutB 10 s).1.length ≤ s.length := cut_head_le s
  have hbl : (cutB 10 s).2.1.length ≤ s.length := cut_rest_le s
  cases hf : (cutB 10 s).2.2 with
  | false =>
    have HRR : Hid (loopR s = some []) := by show _ = _; rw [loopR, if_neg (by rw [hf]; exact Bool.false_ne_true)]
    obtain ⟨l, HLN0⟩ : ∃ l : List E, Hid (l = []) := ⟨[], rfl⟩
    rw [← HLN0.out] at HRR
    have HTR := toHid (fun ao cap w' h => rTree_any l (by rw [HLN0.out]; decide) (by rw [HLN0.out]; exact FitE_nil) ao cap w' h)
    have HSR := toHid (fun ao cap w' h => rSeries_any l (by rw [HLN0.out]; decide) (by rw [HLN0.out]; exact FitE_nil) ao cap w' h)
    have HSO := toHid (fun ao cap w' h => rSorted_any l (by rw [HLN0.out]; decide) (by rw [HLN0.out]; exact FitE_nil) ao cap w' h)
    have HSL : Hid ((sortE l).length = l.length) := sortTo_len l l.length
    have hl0 : l.length = 0 := by rw [HLN0.out]; rfl
    have HLI : Hid (∀ w', LiesE w' none l) := fun w' => .inl HLN0.out
    rw [hl0] at HTR HSR HSO HSL
    rw [hf] at HC
    obtain ⟨a, HAA⟩ := hid_intro (cutB 10 s).1
    obtain ⟨b, HBB⟩ := hid_intro (cutB 10 s).2.1
    rw [← HAA.out, ← HBB.out] at HC
    clear hf hal hbl
    go_enter Tryz.func139, Tryz.ntmps139
    go_wp2_with (go_at_call 141; refine (HC.out _).mono ?_; clear HC; rintro e w1 ⟨rfl, q1, hw1⟩; rw [hw1]; clear hw1)
    go_loopw [4, 6] (fun vo vr wr => vo = .slice none 0 0 ∧ wr = w.drewN q1) (fun _ _ _ => 0)
    case atStart => exact ⟨rfl, rfl⟩
    case round =>
      obtain ⟨rfl, hw⟩ := hrel
      rw [hw]; clear hw
      have HB0 : Hid (Below w.heap.size w (w.drewN q1)) := below_drewN (Below.refl _ _) _
      cases ht : treeB l with
      | false =>
        have HF : Hid (R = none) := by show _ = _; rw [HDEF.out, HRR.out, Option.bind_some, if_neg (fun h => by rw [ht] at h; exact Bool.false_ne_true h.1)]
        rw [ht] at HTR
        go_wp2_with (first | (fail) | (go_at_call 150; refine (HTR.out _ _ _ (HLI.out _)).mono ?_; rintro e5 w5 ⟨rfl, hb5⟩; have HB5 := toHid hb5; have HL5 := toHid (LiesE.below (HLI.out _) hb5); clear hb5))
        go_ret2
        exact ⟨_, by rw [HF.out]; rfl, by rw [HF.out]; exact World.ownsRow_nil _ _ _ _, HB0.out.trans (HB5.out.mono HB0.out.size)⟩
      | true =>
        rw [ht] at HTR
        by_cases hse : serE (sortE l) = s
        · have HF : Hid (R = some (sortE l)) := by show _ = _; rw [HDEF.out, HRR.out, Option.bind_some, if_pos ⟨ht, hse⟩]
          rw [hse] at HSR
          go_wp2_with (first | (fail) | (go_at_call 150; refine (HTR.out _ _ _ (HLI.out _)).mono ?_; rintro e5 w5 ⟨rfl, hb5⟩; have HB5 := toHid hb5; have HL5 := toHid (LiesE.below (HLI.out _) hb5); clear hb5) | (go_at_call 79; refine (HSR.out _ _ _ HL5.out).mono ?_; rintro e6 w6 ⟨rfl, hb6⟩; have HB6 := toHid hb6; have HL6 := toHid (LiesE.below HL5.out hb6); clear hb6) | (go_at_call 78; refine (HSO.out _ _ _ HL6.out).mono ?_; rintro e7 w7 ⟨v7, rfl, ho7, hb7⟩; have HO7 := toHid ho7; have HB7 := toHid hb7; obtain ⟨ao7, cap7, rfl⟩ := own_shape ho7; clear ho7 hb7))
          go_ret2
          have hb9 := (HB0.out.trans (HB5.out.mono HB0.out.size)).trans (HB6.out.mono (Nat.le_trans HB0.out.size HB5.out.size))
          exact ⟨_, by rw [HF.out]; rfl, by rw [HF.out]; show World.ownsRow _ _ _ _ _ (sortE l).length (ecells (sortE l)); rw [HSL.out]; exact own_weak HO7.out hb9.size, hb9.trans (HB7.out.mono hb9.size)⟩
        · have HF : Hid (R = none) := by show _ = _; rw [HDEF.out, HRR.out, Option.bind_some, if_neg (fun h => hse h.2)]
          have hne : (serE (sortE l) == s) = false := beq_eq_false_iff_ne.2 hse
          obtain ⟨X, HXX⟩ := hid_intro (serE (sortE l))
          rw [← HXX.out] at HSR hne
          go_wp2_with (first | (fail) | (go_at_call 150; refine (HTR.out _ _ _ (HLI.out _)).mono ?_; rintro e5 w5 ⟨rfl, hb5⟩; have HB5 := toHid hb5; have HL5 := toHid (LiesE.below (HLI.out _) hb5); clear hb5) | (go_at_call 79; refine (HSR.out _ _ _ HL5.out).mono ?_; rintro e6 w6 ⟨rfl, hb6⟩; have HB6 := toHid hb6; have HL6 := toHid (LiesE.below HL5.out hb6); clear hb6))
          go_ret2
          have hb9 := (HB0.out.trans (HB5.out.mono HB0.out.size)).trans (HB6.out.mono (Nat.le_trans HB0.out.size HB5.out.size))
          exact ⟨_, by rw [HF.out]; rfl, by rw [HF.out]; exact World.ownsRow_nil _ _ _ _, hb9⟩
  | true =>
    have HL : Hid (loopR s = readR (cutB 10 s).2.1 []) := by show _ = _; rw [loopR, if_pos hf]
    rw [hf] at HC
    obtain ⟨a, HAA⟩ := hid_intro (cutB 10 s).1
    obtain ⟨b, HBB⟩ := hid_intro (cutB 10 s).2.1
    rw [← HAA.out, ← HBB.out] at HC
    rw [← HBB.out] at HL hbl
    clear hf hal
    go_enter Tryz.func139, Tryz.ntmps139
    go_wp2_with (go_at_call 141; refine (HC.out _).mono ?_; clear HC; rintro e w1 ⟨rfl, q1, hw1⟩; rw [hw1]; clear hw1)
    go_loopw [4, 6] (fun vo vr wr => ∃ (l : List E) (rest : List UInt8), vr = .string ⟨rest.toArray⟩ ∧ Hid (rest.length ≤ s.length) ∧ Hid (l.length ≤ 60) ∧ Hid (FitE l) ∧ Hid (loopR s = readR rest l) ∧ Hid (wr.ownsRow w.heap.size 47 3 vo l.length (ecells l)) ∧ Below w.heap.size w wr) (fun _ vr _ => match vr with | .string b => b.size | _ => 0)
    case atStart => exact ⟨[], b, rfl, hbl, Nat.zero_le _, FitE_nil, HL.out, World.ownsRow_nil _ _ _ _, below_drewN (Below.refl _ _) _⟩
    case round =>
      clear HL hbl HAA HBB
      obtain ⟨l, rest, rfl, HRL, HLN, HFT, HL, HO, hb⟩ := hrel
      have hbs := hb.size
      have hrl := HRL.out
      have hln := HLN.out
      have HTR := toHid (fun ao cap w' h => rTree_any l (by omega) HFT.out ao cap w' h)
      have HSR := toHid (fun ao cap w' h => rSeries_any l (by omega) HFT.out ao cap w' h)
      have HSO := toHid (fun ao cap w' h => rSorted_any l (by omega) HFT.out ao cap w' h)
      have HSL : Hid ((sortE l).length = l.length) := sortTo_len l l.length
      have HD := (show Hid _ from rline_any ⟨rest.toArray⟩ (by rw [size_of]; omega))
      rw [show cutB 10 (ByteArray.mk rest.toArray).data.toList = cutB 10 rest from rfl] at HD
      have hal : (cutB 10 rest).1.length ≤ rest.length := cut_head_le rest
      have hbl : (cutB 10 rest).2.1.length ≤ rest.length := cut_rest_le rest
      have hx1 := fun (h : stepR rest = none) => readR_end (l := l) h
      have hx2 := fun (h : stepR rest = some none) => readR_bad (l := l) h
      have hx3 := fun (e : E) (r : List UInt8) (h : stepR rest = some (some (e, r))) => readR_go (l := l) h
      have hsd : stepR rest = (if (cutB 10 rest).2.2 = false ∨ (splitB 32 (cutB 10 rest).1).length < 2 ∨ (splitB 32 (cutB 10 rest).1).getD 0 [] = endB then none
        else if (splitB 32 (cutB 10 rest).1).getD 0 [] = [100] then some (some (⟨(splitB 32 (cutB 10 rest).1).getD ((splitB 32 (cutB 10 rest).1).length - 1) [], true, []⟩, (cutB 10 rest).2.1))
        else if sizeB 0 ((splitB 32 (cutB 10 rest).1).getD 1 []) < 0 ∨ sizeB 0 ((splitB 32 (cutB 10 rest).1).getD 1 []) + 1 > ((cutB 10 rest).2.1.length : Int) then some none
        else some (some (⟨(splitB 32 (cutB 10 rest).1).getD ((splitB 32 (cutB 10 rest).1).length - 1) [], false, (cutB 10 rest).2.1.take (sizeB 0 ((splitB 32 (cutB 10 rest).1).getD 1 [])).toNat⟩, (cutB 10 rest).2.1.drop ((sizeB 0 ((splitB 32 (cutB 10 rest).1).getD 1 [])).toNat + 1)))) := rfl
      obtain ⟨a2, HA2⟩ := hid_intro (cutB 10 rest).1
      obtain ⟨b2, HB2⟩ := hid_intro (cutB 10 rest).2.1
      obtain ⟨f2, HF2⟩ := hid_intro (cutB 10 rest).2.2
      rw [← HA2.out, ← HB2.out, ← HF2.out] at HD hsd
      rw [← HA2.out] at hal
      rw [← HB2.out] at hbl
      have HX := (show Hid _ from rCut_any ⟨a2.toArray⟩ (by rw [size_of]; omega) 32)
      rw [show splitB 32 (ByteArray.mk a2.toArray).data.toList = splitB 32 a2 from rfl, show ((32 : UInt8).toNat : Int) = 32 from rfl] at HX
      have hm2 := split_many (c := 32) a2
      have hc2 : a2.count 32 ≤ a2.length := List.count_le_length
      have hlen := split_lens (c := 32) a2
      obtain ⟨L, HLL⟩ := hid_intro (splitB 32 a2)
      rw [← HLL.out] at HX hsd hm2 hlen
      obtain ⟨n, HN⟩ := hid_intro L.length
      rw [← HN.out] at HX hsd hm2
      have hn : n ≤ 1048577 := by omega
      have HLEN := toHid hlen
      have HSD := toHid hsd
      clear hlen hsd hm2 hc2
      cases hf : f2 with
      | false =>
        have HRR : Hid (loopR s = some l) := by show _ = _; rw [HL.out, hx1 (by rw [HSD.out, if_pos (.inl hf)])]
        rw [hf] at HD
        clear HSD hx1 hx2 hx3
        obtain ⟨ao, cap, hv, _⟩ := own_lies HO.out
        subst hv
        cases ht : treeB l with
        | false =>
          have HF : Hid (R = none) := by show _ = _; rw [HDEF.out, HRR.out, Option.bind_some, if_neg (fun h => by rw [ht] at h; exact Bool.false_ne_true h.1)]
          rw [ht] at HTR
          go_wp2_with (first | (go_at_call 141; refine (HD.out _).mono ?_; clear HD; rintro e1 w2 ⟨rfl, q2, hw2⟩; rw [hw2]; clear hw2) | (go_at_call 142; refine (HX.out _).mono ?_; clear HX; rintro e2 w3 ⟨v3, rfl, ho3, hb3⟩; have HO3 := toHid ho3; have HB3 : Hid (Below wr.heap.size wr w3) := (below_drewN (Below.refl _ wr) q2).trans (hb3.mono (by simp)); have HB3w : Hid (Below w.heap.size w w3) := hb.trans (HB3.out.mono hbs); have HO4 := toHid (own_below HO.out HB3.out); obtain ⟨ao3, cap3, rfl⟩ := own_shape ho3;  clear ho3 hb3) | (go_at_call 150; refine (HTR.out _ _ _ (lies_of HO4.out)).mono ?_; rintro e5 w5 ⟨rfl, hb5⟩; have HB5 := toHid hb5; have HL5 := toHid (LiesE.below (lies_of HO4.out) hb5); clear hb5))
          go_ret2
          exact ⟨_, by rw [HF.out]; rfl, by rw [HF.out]; exact World.ownsRow_nil _ _ _ _, HB3w.out.trans (HB5.out.mono HB3w.out.size)⟩
        | true =>
          rw [ht] at HTR
          by_cases hse : serE (sortE l) = s
          · have HF : Hid (R = some (sortE l)) := by show _ = _; rw [HDEF.out, HRR.out, Option.bind_some, if_pos ⟨ht, hse⟩]
            rw [hse] at HSR
            go_wp2_with (first | (go_at_call 141; refine (HD.out _).mono ?_; clear HD; rintro e1 w2 ⟨rfl, q2, hw2⟩; rw [hw2]; clear hw2) | (go_at_call 142; refine (HX.out _).mono ?_; clear HX; rintro e2 w3 ⟨v3, rfl, ho3, hb3⟩; have HO3 := toHid ho3; have HB3 : Hid (Below wr.heap.size wr w3) := (below_drewN (Below.refl _ wr) q2).trans (hb3.mono (by simp)); have HB3w : Hid (Below w.heap.size w w3) := hb.trans (HB3.out.mono hbs); have HO4 := toHid (own_below HO.out HB3.out); obtain ⟨ao3, cap3, rfl⟩ := own_shape ho3;  clear ho3 hb3) | (go_at_call 150; refine (HTR.out _ _ _ (lies_of HO4.out)).mono ?_; rintro e5 w5 ⟨rfl, hb5⟩; have HB5 := toHid hb5; have HL5 := toHid (LiesE.below (lies_of HO4.out) hb5); clear hb5) | (go_at_call 79; refine (HSR.out _ _ _ HL5.out).mono ?_; rintro e6 w6 ⟨rfl, hb6⟩; have HB6 := toHid hb6; have HL6 := toHid (LiesE.below HL5.out hb6); clear hb6) | (go_at_call 78; refine (HSO.out _ _ _ HL6.out).mono ?_; rintro e7 w7 ⟨v7, rfl, ho7, hb7⟩; have HO7 := toHid ho7; have HB7 := toHid hb7; obtain ⟨ao7, cap7, rfl⟩ := own_shape ho7; clear ho7 hb7))
            go_ret2
            have hb9 := (HB3w.out.trans (HB5.out.mono HB3w.out.size)).trans (HB6.out.mono (Nat.le_trans HB3w.out.size HB5.out.size))
            exact ⟨_, by rw [HF.out]; rfl, by rw [HF.out]; show World.ownsRow _ _ _ _ _ (sortE l).length (ecells (sortE l)); rw [HSL.out]; exact own_weak HO7.out hb9.size, hb9.trans (HB7.out.mono hb9.size)⟩
          · have HF : Hid (R = none) := by show _ = _; rw [HDEF.out, HRR.out, Option.bind_some, if_neg (fun h => hse h.2)]
            have hne : (serE (sortE l) == s) = false := beq_eq_false_iff_ne.2 hse
            obtain ⟨X, HXX⟩ := hid_intro (serE (sortE l))
            rw [← HXX.out] at HSR hne
            go_wp2_with (first | (go_at_call 141; refine (HD.out _).mono ?_; clear HD; rintro e1 w2 ⟨rfl, q2, hw2⟩; rw [hw2]; clear hw2) | (go_at_call 142; refine (HX.out _).mono ?_; clear HX; rintro e2 w3 ⟨v3, rfl, ho3, hb3⟩; have HO3 := toHid ho3; have HB3 : Hid (Below wr.heap.size wr w3) := (below_drewN (Below.refl _ wr) q2).trans (hb3.mono (by simp)); have HB3w : Hid (Below w.heap.size w w3) := hb.trans (HB3.out.mono hbs); have HO4 := toHid (own_below HO.out HB3.out); obtain ⟨ao3, cap3, rfl⟩ := own_shape ho3;  clear ho3 hb3) | (go_at_call 150; refine (HTR.out _ _ _ (lies_of HO4.out)).mono ?_; rintro e5 w5 ⟨rfl, hb5⟩; have HB5 := toHid hb5; have HL5 := toHid (LiesE.below (lies_of HO4.out) hb5); clear hb5) | (go_at_call 79; refine (HSR.out _ _ _ HL5.out).mono ?_; rintro e6 w6 ⟨rfl, hb6⟩; have HB6 := toHid hb6; have HL6 := toHid (LiesE.below HL5.out hb6); clear hb6))
            go_ret2
            have hb9 := (HB3w.out.trans (HB5.out.mono HB3w.out.size)).trans (HB6.out.mono (Nat.le_trans HB3w.out.size HB5.out.size))
            exact ⟨_, by rw [HF.out]; rfl, by rw [HF.out]; exact World.ownsRow_nil _ _ _ _, hb9⟩
      | true =>
        rw [hf] at HD
        by_cases h2 : n < 2
        · have HRR : Hid (loopR s = some l) := by show _ = _; rw [HL.out, hx1 (by rw [HSD.out, if_pos (.inr (.inl h2))])]
          clear HSD hx1 hx2 hx3
          obtain ⟨ao, cap, hv, _⟩ := own_lies HO.out
          subst hv
          cases ht : treeB l with
          | false =>
            have HF : Hid (R = none) := by show _ = _; rw [HDEF.out, HRR.out, Option.bind_some, if_neg (fun h => by rw [ht] at h; exact Bool.false_ne_true h.1)]
            rw [ht] at HTR
            go_wp2_with (first | (go_at_call 141; refine (HD.out _).mono ?_; clear HD; rintro e1 w2 ⟨rfl, q2, hw2⟩; rw [hw2]; clear hw2) | (go_at_call 142; refine (HX.out _).mono ?_; clear HX; rintro e2 w3 ⟨v3, rfl, ho3, hb3⟩; have HO3 := toHid ho3; have HB3 : Hid (Below wr.heap.size wr w3) := (below_drewN (Below.refl _ wr) q2).trans (hb3.mono (by simp)); have HB3w : Hid (Below w.heap.size w w3) := hb.trans (HB3.out.mono hbs); have HO4 := toHid (own_below HO.out HB3.out); obtain ⟨ao3, cap3, rfl⟩ := own_shape ho3;  clear ho3 hb3) | (go_at_call 150; refine (HTR.out _ _ _ (lies_of HO4.out)).mono ?_; rintro e5 w5 ⟨rfl, hb5⟩; have HB5 := toHid hb5; have HL5 := toHid (LiesE.below (lies_of HO4.out) hb5); clear hb5))
            go_ret2
            exact ⟨_, by rw [HF.out]; rfl, by rw [HF.out]; exact World.ownsRow_nil _ _ _ _, HB3w.out.trans (HB5.out.mono HB3w.out.size)⟩
          | true =>
            rw [ht] at HTR
            by_cases hse : serE (sortE l) = s
            · have HF : Hid (R = some (sortE l)) := by show _ = _; rw [HDEF.out, HRR.out, Option.bind_some, if_pos ⟨ht, hse⟩]
              rw [hse] at HSR
              go_wp2_with (first | (go_at_call 141; refine (HD.out _).mono ?_; clear HD; rintro e1 w2 ⟨rfl, q2, hw2⟩; rw [hw2]; clear hw2) | (go_at_call 142; refine (HX.out _).mono ?_; clear HX; rintro e2 w3 ⟨v3, rfl, ho3, hb3⟩; have HO3 := toHid ho3; have HB3 : Hid (Below wr.heap.size wr w3) := (below_drewN (Below.refl _ wr) q2).trans (hb3.mono (by simp)); have HB3w : Hid (Below w.heap.size w w3) := hb.trans (HB3.out.mono hbs); have HO4 := toHid (own_below HO.out HB3.out); obtain ⟨ao3, cap3, rfl⟩ := own_shape ho3;  clear ho3 hb3) | (go_at_call 150; refine (HTR.out _ _ _ (lies_of HO4.out)).mono ?_; rintro e5 w5 ⟨rfl, hb5⟩; have HB5 := toHid hb5; have HL5 := toHid (LiesE.below (lies_of HO4.out) hb5); clear hb5) | (go_at_call 79; refine (HSR.out _ _ _ HL5.out).mono ?_; rintro e6 w6 ⟨rfl, hb6⟩; have HB6 := toHid hb6; have HL6 := toHid (LiesE.below HL5.out hb6); clear hb6) | (go_at_call 78; refine (HSO.out _ _ _ HL6.out).mono ?_; rintro e7 w7 ⟨v7, rfl, ho7, hb7⟩; have HO7 := toHid ho7; have HB7 := toHid hb7; obtain ⟨ao7, cap7, rfl⟩ := own_shape ho7; clear ho7 hb7))
              go_ret2
              have hb9 := (HB3w.out.trans (HB5.out.mono HB3w.out.size)).trans (HB6.out.mono (Nat.le_trans HB3w.out.size HB5.out.size))
              exact ⟨_, by rw [HF.out]; rfl, by rw [HF.out]; show World.ownsRow _ _ _ _ _ (sortE l).length (ecells (sortE l)); rw [HSL.out]; exact own_weak HO7.out hb9.size, hb9.trans (HB7.out.mono hb9.size)⟩
            · have HF : Hid (R = none) := by show _ = _; rw [HDEF.out, HRR.out, Option.bind_some, if_neg (fun h => hse h.2)]
              have hne : (serE (sortE l) == s) = false := beq_eq_false_iff_ne.2 hse
              obtain ⟨X, HXX⟩ := hid_intro (serE (sortE l))
              rw [← HXX.out] at HSR hne
              go_wp2_with (first | (go_at_call 141; refine (HD.out _).mono ?_; clear HD; rintro e1 w2 ⟨rfl, q2, hw2⟩; rw [hw2]; clear hw2) | (go_at_call 142; refine (HX.out _).mono ?_; clear HX; rintro e2 w3 ⟨v3, rfl, ho3, hb3⟩; have HO3 := toHid ho3; have HB3 : Hid (Below wr.heap.size wr w3) := (below_drewN (Below.refl _ wr) q2).trans (hb3.mono (by simp)); have HB3w : Hid (Below w.heap.size w w3) := hb.trans (HB3.out.mono hbs); have HO4 := toHid (own_below HO.out HB3.out); obtain ⟨ao3, cap3, rfl⟩ := own_shape ho3;  clear ho3 hb3) | (go_at_call 150; refine (HTR.out _ _ _ (lies_of HO4.out)).mono ?_; rintro e5 w5 ⟨rfl, hb5⟩; have HB5 := toHid hb5; have HL5 := toHid (LiesE.below (lies_of HO4.out) hb5); clear hb5) | (go_at_call 79; refine (HSR.out _ _ _ HL5.out).mono ?_; rintro e6 w6 ⟨rfl, hb6⟩; have HB6 := toHid hb6; have HL6 := toHid (LiesE.below HL5.out hb6); clear hb6))
              go_ret2
              have hb9 := (HB3w.out.trans (HB5.out.mono HB3w.out.size)).trans (HB6.out.mono (Nat.le_trans HB3w.out.size HB5.out.size))
              exact ⟨_, by rw [HF.out]; rfl, by rw [HF.out]; exact World.ownsRow_nil _ _ _ _, hb9⟩
        · obtain ⟨m, rfl⟩ : ∃ m, n = m + 2 := ⟨n - 2, by omega⟩
          have hl1 := HLEN.out (L.getD 1 []) (getD_memL (L := L) (i := 1) (by rw [← HN.out]; omega))
          have hlp := HLEN.out (L.getD (m + 1) []) (getD_memL (L := L) (i := m + 1) (by rw [← HN.out]; omega))
          have hsd := HSD.out
          rw [show m + 2 - 1 = m + 1 from rfl] at hsd
          clear HSD
          obtain ⟨k0, HK0⟩ := hid_intro (L.getD 0 [])
          obtain ⟨k1, HK1⟩ := hid_intro (L.getD 1 [])
          obtain ⟨p, HP⟩ := hid_intro (L.getD (m + 1) [])
          rw [← HK0.out, ← HK1.out, ← HP.out] at hsd
          rw [← HK1.out] at hl1
          rw [← HP.out] at hlp
          by_cases h3 : k0 = endB
          · have HRR : Hid (loopR s = some l) := by show _ = _; rw [HL.out, hx1 (by rw [hsd, if_pos (.inr (.inr h3))])]
            clear hsd hx1 hx2 hx3
            obtain ⟨ao, cap, hv, _⟩ := own_lies HO.out
            subst hv
            have h3' : k0 = [101, 110, 100] := h3
            subst h3'
            clear h3
            cases ht : treeB l with
            | false =>
              have HF : Hid (R = none) := by show _ = _; rw [HDEF.out, HRR.out, Option.bind_some, if_neg (fun h => by rw [ht] at h; exact Bool.false_ne_true h.1)]
              rw [ht] at HTR
              go_wp2_with (first | (go_at_call 141; refine (HD.out _).mono ?_; clear HD; rintro e1 w2 ⟨rfl, q2, hw2⟩; rw [hw2]; clear hw2) | (go_at_call 142; refine (HX.out _).mono ?_; clear HX; rintro e2 w3 ⟨v3, rfl, ho3, hb3⟩; have HO3 := toHid ho3; have HB3 : Hid (Below wr.heap.size wr w3) := (below_drewN (Below.refl _ wr) q2).trans (hb3.mono (by simp)); have HB3w : Hid (Below w.heap.size w w3) := hb.trans (HB3.out.mono hbs); have HO4 := toHid (own_below HO.out HB3.out); obtain ⟨ao3, cap3, rfl⟩ := own_shape ho3; obtain ⟨g3, hg3, hk0⟩ := own_str HO3.out HN.out (i := 0) (by omega); obtain ⟨g4, hg4, hkl⟩ := own_str HO3.out HN.out (i := m + 1) (by omega); obtain ⟨g5, hg5, hk1⟩ := own_str HO3.out HN.out (i := 1) (by omega); subst hg3; injection hg4 with hg4; injection hg4 with hg4; subst hg4; injection hg5 with hg5; injection hg5 with hg5; subst hg5; rw [← HK0.out] at hk0; rw [← HP.out] at hkl; rw [← HK1.out] at hk1; clear ho3 hb3) | (go_at_call 150; refine (HTR.out _ _ _ (lies_of HO4.out)).mono ?_; rintro e5 w5 ⟨rfl, hb5⟩; have HB5 := toHid hb5; have HL5 := toHid (LiesE.below (lies_of HO4.out) hb5); clear hb5))
              go_ret2
              exact ⟨_, by rw [HF.out]; rfl, by rw [HF.out]; exact World.ownsRow_nil _ _ _ _, HB3w.out.trans (HB5.out.mono HB3w.out.size)⟩
            | true =>
              rw [ht] at HTR
              by_cases hse : serE (sortE l) = s
              · have HF : Hid (R = some (sortE l)) := by show _ = _; rw [HDEF.out, HRR.out, Option.bind_some, if_pos ⟨ht, hse⟩]
                rw [hse] at HSR
                go_wp2_with (first | (go_at_call 141; refine (HD.out _).mono ?_; clear HD; rintro e1 w2 ⟨rfl, q2, hw2⟩; rw [hw2]; clear hw2) | (go_at_call 142; refine (HX.out _).mono ?_; clear HX; rintro e2 w3 ⟨v3, rfl, ho3, hb3⟩; have HO3 := toHid ho3; have HB3 : Hid (Below wr.heap.size wr w3) := (below_drewN (Below.refl _ wr) q2).trans (hb3.mono (by simp)); have HB3w : Hid (Below w.heap.size w w3) := hb.trans (HB3.out.mono hbs); have HO4 := toHid (own_below HO.out HB3.out); obtain ⟨ao3, cap3, rfl⟩ := own_shape ho3; obtain ⟨g3, hg3, hk0⟩ := own_str HO3.out HN.out (i := 0) (by omega); obtain ⟨g4, hg4, hkl⟩ := own_str HO3.out HN.out (i := m + 1) (by omega); obtain ⟨g5, hg5, hk1⟩ := own_str HO3.out HN.out (i := 1) (by omega); subst hg3; injection hg4 with hg4; injection hg4 with hg4; subst hg4; injection hg5 with hg5; injection hg5 with hg5; subst hg5; rw [← HK0.out] at hk0; rw [← HP.out] at hkl; rw [← HK1.out] at hk1; clear ho3 hb3) | (go_at_call 150; refine (HTR.out _ _ _ (lies_of HO4.out)).mono ?_; rintro e5 w5 ⟨rfl, hb5⟩; have HB5 := toHid hb5; have HL5 := toHid (LiesE.below (lies_of HO4.out) hb5); clear hb5) | (go_at_call 79; refine (HSR.out _ _ _ HL5.out).mono ?_; rintro e6 w6 ⟨rfl, hb6⟩; have HB6 := toHid hb6; have HL6 := toHid (LiesE.below HL5.out hb6); clear hb6) | (go_at_call 78; refine (HSO.out _ _ _ HL6.out).mono ?_; rintro e7 w7 ⟨v7, rfl, ho7, hb7⟩; have HO7 := toHid ho7; have HB7 := toHid hb7; obtain ⟨ao7, cap7, rfl⟩ := own_shape ho7; clear ho7 hb7))
                go_ret2
                have hb9 := (HB3w.out.trans (HB5.out.mono HB3w.out.size)).trans (HB6.out.mono (Nat.le_trans HB3w.out.size HB5.out.size))
                exact ⟨_, by rw [HF.out]; rfl, by rw [HF.out]; show World.ownsRow _ _ _ _ _ (sortE l).length (ecells (sortE l)); rw [HSL.out]; exact own_weak HO7.out hb9.size, hb9.trans (HB7.out.mono hb9.size)⟩
              · have HF : Hid (R = none) := by show _ = _; rw [HDEF.out, HRR.out, Option.bind_some, if_neg (fun h => hse h.2)]
                have hne : (serE (sortE l) == s) = false := beq_eq_false_iff_ne.2 hse
                obtain ⟨X, HXX⟩ := hid_intro (serE (sortE l))
                rw [← HXX.out] at HSR hne
                go_wp2_with (first | (go_at_call 141; refine (HD.out _).mono ?_; clear HD; rintro e1 w2 ⟨rfl, q2, hw2⟩; rw [hw2]; clear hw2) | (go_at_call 142; refine (HX.out _).mono ?_; clear HX; rintro e2 w3 ⟨v3, rfl, ho3, hb3⟩; have HO3 := toHid ho3; have HB3 : Hid (Below wr.heap.size wr w3) := (below_drewN (Below.refl _ wr) q2).trans (hb3.mono (by simp)); have HB3w : Hid (Below w.heap.size w w3) := hb.trans (HB3.out.mono hbs); have HO4 := toHid (own_below HO.out HB3.out); obtain ⟨ao3, cap3, rfl⟩ := own_shape ho3; obtain ⟨g3, hg3, hk0⟩ := own_str HO3.out HN.out (i := 0) (by omega); obtain ⟨g4, hg4, hkl⟩ := own_str HO3.out HN.out (i := m + 1) (by omega); obtain ⟨g5, hg5, hk1⟩ := own_str HO3.out HN.out (i := 1) (by omega); subst hg3; injection hg4 with hg4; injection hg4 with hg4; subst hg4; injection hg5 with hg5; injection hg5 with hg5; subst hg5; rw [← HK0.out] at hk0; rw [← HP.out] at hkl; rw [← HK1.out] at hk1; clear ho3 hb3) | (go_at_call 150; refine (HTR.out _ _ _ (lies_of HO4.out)).mono ?_; rintro e5 w5 ⟨rfl, hb5⟩; have HB5 := toHid hb5; have HL5 := toHid (LiesE.below (lies_of HO4.out) hb5); clear hb5) | (go_at_call 79; refine (HSR.out _ _ _ HL5.out).mono ?_; rintro e6 w6 ⟨rfl, hb6⟩; have HB6 := toHid hb6; have HL6 := toHid (LiesE.below HL5.out hb6); clear hb6))
                go_ret2
                have hb9 := (HB3w.out.trans (HB5.out.mono HB3w.out.size)).trans (HB6.out.mono (Nat.le_trans HB3w.out.size HB5.out.size))
                exact ⟨_, by rw [HF.out]; rfl, by rw [HF.out]; exact World.ownsRow_nil _ _ _ _, hb9⟩
          · have h3' : (k0 == [101, 110, 100]) = false := beq_eq_false_iff_ne.2 h3
            have hneg : ¬ (f2 = false ∨ m + 2 < 2 ∨ k0 = endB) := by
              rw [hf]
              rintro (h | h | h)
              · cases h
              · omega
              · exact h3 h
            rw [if_neg hneg] at hsd
            clear hneg
            by_cases h4 : k0 = [100]
            · rw [if_pos h4] at hsd
              have HGO := toHid (HL.out.trans (hx3 _ _ hsd))
              clear hsd hx1 hx2 hx3
              subst h4
              obtain ⟨ao, cap, hv⟩ := own_shape HO.out
              subst hv
              go_wp2_with (first | (go_at_call 141; refine (HD.out _).mono ?_; clear HD; rintro e1 w2 ⟨rfl, q2, hw2⟩; rw [hw2]; clear hw2) | (go_at_call 142; refine (HX.out _).mono ?_; clear HX; rintro e2 w3 ⟨v3, rfl, ho3, hb3⟩; have HO3 := toHid ho3; have HB3 : Hid (Below wr.heap.size wr w3) := (below_drewN (Below.refl _ wr) q2).trans (hb3.mono (by simp)); have HB3w : Hid (Below w.heap.size w w3) := hb.trans (HB3.out.mono hbs); have HO4 := toHid (own_below HO.out HB3.out); obtain ⟨ao3, cap3, rfl⟩ := own_shape ho3; obtain ⟨g3, hg3, hk0⟩ := own_str HO3.out HN.out (i := 0) (by omega); obtain ⟨g4, hg4, hkl⟩ := own_str HO3.out HN.out (i := m + 1) (by omega); obtain ⟨g5, hg5, hk1⟩ := own_str HO3.out HN.out (i := 1) (by omega); subst hg3; injection hg4 with hg4; injection hg4 with hg4; subst hg4; injection hg5 with hg5; injection hg5 with hg5; subst hg5; rw [← HK0.out] at hk0; rw [← HP.out] at hkl; rw [← HK1.out] at hk1; clear ho3 hb3))
              have hn1 := World.new_ne w3 ⟨g3, 0, none⟩ hk0
              have hn2 := World.new_ne w3 ⟨g3, m + 1, none⟩ hkl
              have hi1 : (0 : Int) ≤ (m : Int) + 1 := by omega
              have hi2 : (m : Int) + 1 < (m : Int) + 2 := by omega
              have hi3 : IntKind.i64.wrap ((m : Int) + 1) = (m : Int) + 1 := by rw [IntKind.wrap_i64]; omega
              have hi4 : (m : Int) + 2 - 1 = (m : Int) + 1 := by omega
              have hi5 : ((m : Int) + 1).toNat = m + 1 := by omega
              have hi6 : IntKind.i64.wrap ((m : Int) + 2 - 1) = (m : Int) + 1 := by rw [IntKind.wrap_i64]; omega
              go_region_held (fun w' => w'.cell? ⟨g3, 0, none⟩ = some (.string ⟨#[100]⟩) ∧ w'.cell? ⟨g3, m + 1, none⟩ = some (.string ⟨p.toArray⟩)) (go_keep) (fail)
              have hlt2 : b2.length < rest.length := by rw [HB2.out]; exact cut_rest_lt (by rw [← HF2.out]; exact hf)
              have HSN := toHid (ecells_snoc l ⟨p, true, []⟩)
              have HFT2 : Hid (FitE (l ++ [⟨p, true, []⟩])) := fun x hx => by
                rcases List.mem_append.1 hx with h | h
                · exact HFT.out x h
                · rw [List.mem_singleton.1 h]; exact ⟨by show p.length ≤ _; omega, Nat.zero_le _⟩
              by_cases h60 : l.length + 1 > 60
              · have HF : Hid (R = none) := by show _ = _; rw [HDEF.out, HGO.out, if_pos h60]; rfl
                go_wp2_with (at_builtin; go_must (refine wpList_append_lies _ rfl _ _ 26 rfl w.heap.size 47 i0 (.agg #[.string ⟨#[]⟩, .bool false, .string ⟨#[]⟩]) 3 40 Tryz.underlying26 hi0 hz0 hz1 hz2 rfl (by decide) _ l.length (ecells l) rfl (own_below HO4.out ((((Below.refl _ w3).alloc (Nat.le_refl _) _).alloc (by simp) _).drew)) ⟨_, 0, none⟩ 1 1 [.string ⟨p.toArray⟩, .bool true, .string ⟨#[]⟩] rfl rfl (cell_three_add2 _ _ _ _ _ _) (by simp [Value.oneCell']) (by decide) (by unfold maxLen; omega) (by omega) (by simp; have := HB3w.out.size; omega) _ rfl ?_); intro g9 cap9 w9 hown9 hg9 hat9 _; have HO9 := toHid hown9; have HB9 : Hid (Below w.heap.size w w9) := grown_below (((HB3w.out.alloc HB3w.out.size _).alloc (by have := HB3w.out.size; simp; omega) _).drew) (own_below HO4.out ((((Below.refl _ w3).alloc (Nat.le_refl _) _).alloc (by simp) _).drew)) (Nat.le_refl _) (by simp; have := HB3w.out.size; omega) hg9; clear hown9 hg9 hat9)
                go_ret2
                exact ⟨_, by rw [HF.out]; rfl, by rw [HF.out]; exact World.ownsRow_nil _ _ _ _, HB9.out⟩
              · have HG2 : Hid (loopR s = readR b2 (l ++ [⟨p, true, []⟩])) := by show _ = _; rw [HGO.out, if_neg h60]
                go_wp2_with (at_builtin; go_must (refine wpList_append_lies _ rfl _ _ 26 rfl w.heap.size 47 i0 (.agg #[.string ⟨#[]⟩, .bool false, .string ⟨#[]⟩]) 3 40 Tryz.underlying26 hi0 hz0 hz1 hz2 rfl (by decide) _ l.length (ecells l) rfl (own_below HO4.out ((((Below.refl _ w3).alloc (Nat.le_refl _) _).alloc (by simp) _).drew)) ⟨_, 0, none⟩ 1 1 [.string ⟨p.toArray⟩, .bool true, .string ⟨#[]⟩] rfl rfl (cell_three_add2 _ _ _ _ _ _) (by simp [Value.oneCell']) (by decide) (by unfold maxLen; omega) (by omega) (by simp; have := HB3w.out.size; omega) _ rfl ?_); intro g9 cap9 w9 hown9 hg9 hat9 _; have HO9 := toHid hown9; have HB9 : Hid (Below w.heap.size w w9) := grown_below (((HB3w.out.alloc HB3w.out.size _).alloc (by have := HB3w.out.size; simp; omega) _).drew) (own_below HO4.out ((((Below.refl _ w3).alloc (Nat.le_refl _) _).alloc (by simp) _).drew)) (Nat.le_refl _) (by simp; have := HB3w.out.size; omega) hg9; clear hown9 hg9 hat9)
                go_roundw
                case rel =>
                  refine ⟨l ++ [⟨p, true, []⟩], b2, rfl, by show _ ≤ _; omega, by show _ ≤ _; simp; omega, HFT2, HG2, ?_, HB9.out⟩
                  rw [HSN.out, List.length_append]
                  exact HO9
                case measure => simp [ByteArray.size]; omega
            · rw [if_neg h4] at hsd
              have h4' : (k0 == [100]) = false := beq_eq_false_iff_ne.2 h4
              have hlt2 : b2.length < rest.length := by rw [HB2.out]; exact cut_rest_lt (by rw [← HF2.out]; exact hf)
              obtain ⟨ao, cap, hv⟩ := own_shape HO.out
              subst hv
              have HSZ := toHid (fun w => rSize_any ⟨k1.toArray⟩ (by rw [size_of]; omega) w)
              rw [show sizeB 0 (ByteArray.mk k1.toArray).data.toList = sizeB 0 k1 from rfl] at HSZ
              obtain ⟨z, HZ⟩ := hid_intro (sizeB 0 k1)
              rw [← HZ.out] at HSZ hsd
              have hi1 : (0 : Int) ≤ (m : Int) + 1 := by omega
              have hi2 : (m : Int) + 1 < (m : Int) + 2 := by omega
              have hi3 : IntKind.i64.wrap ((m : Int) + 1) = (m : Int) + 1 := by rw [IntKind.wrap_i64]; omega
              have hi4 : (m : Int) + 2 - 1 = (m : Int) + 1 := by omega
              have hi5 : ((m : Int) + 1).toNat = m + 1 := by omega
              have hi6 : IntKind.i64.wrap ((m : Int) + 2 - 1) = (m : Int) + 1 := by rw [IntKind.wrap_i64]; omega
              have HSD2 := toHid hsd
              clear hsd
              go_wp2_with (first | (go_at_call 141; refine (HD.out _).mono ?_; clear HD; rintro e1 w2 ⟨rfl, q2, hw2⟩; rw [hw2]; clear hw2) | (go_at_call 142; refine (HX.out _).mono ?_; clear HX; rintro e2 w3 ⟨v3, rfl, ho3, hb3⟩; have HO3 := toHid ho3; have HB3 : Hid (Below wr.heap.size wr w3) := (below_drewN (Below.refl _ wr) q2).trans (hb3.mono (by simp)); have HB3w : Hid (Below w.heap.size w w3) := hb.trans (HB3.out.mono hbs); have HO4 := toHid (own_below HO.out HB3.out); obtain ⟨ao3, cap3, rfl⟩ := own_shape ho3; obtain ⟨g3, hg3, hk0⟩ := own_str HO3.out HN.out (i := 0) (by omega); obtain ⟨g4, hg4, hkl⟩ := own_str HO3.out HN.out (i := m + 1) (by omega); obtain ⟨g5, hg5, hk1⟩ := own_str HO3.out HN.out (i := 1) (by omega); subst hg3; injection hg4 with hg4; injection hg4 with hg4; subst hg4; injection hg5 with hg5; injection hg5 with hg5; subst hg5; rw [← HK0.out] at hk0; rw [← HP.out] at hkl; rw [← HK1.out] at hk1; clear ho3 hb3))
              have hn1 := World.new_ne w3 ⟨g3, 0, none⟩ hk0
              have hn2 := World.new_ne w3 ⟨g3, m + 1, none⟩ hkl
              go_region_held (fun w' => w'.cell? ⟨g3, 0, none⟩ = some (.string ⟨k0.toArray⟩) ∧ w'.cell? ⟨g3, m + 1, none⟩ = some (.string ⟨p.toArray⟩)) (go_keep) (fail)
              have hk1' : ∀ o, (w3.alloc o).cell? ⟨g3, 1, none⟩ = some (.string ⟨k1.toArray⟩) := fun o => (((Below.refl w3.heap.size w3).alloc (Nat.le_refl _) o).cell (p := ⟨g3, 1, none⟩) (World.block_lt_of_cell? w3 _ hk1)).trans hk1
              have hzb := sizeB_le k1 0 (by decide)
              rw [← HZ.out] at hzb
              by_cases hzn : z < 0
              · have HF : Hid (R = none) := by show _ = _; rw [HDEF.out, HL.out, hx2 (by rw [HSD2.out, if_pos (.inl hzn)])]; rfl
                clear hx1 hx2 hx3 HSD2
                go_wp2_with (go_at_call 207; refine (HSZ.out _).mono ?_; clear HSZ; rintro e8 w8 ⟨rfl, hw8⟩; rw [hw8]; clear hw8)
                go_ret2
                exact ⟨_, by rw [HF.out]; rfl, by rw [HF.out]; exact World.ownsRow_nil _ _ _ _, (HB3w.out.alloc HB3w.out.size _).drew⟩
              · obtain ⟨k, rfl⟩ : ∃ k : Nat, z = k := ⟨z.toNat, by omega⟩
                by_cases hzl : (k : Int) + 1 > (b2.length : Int)
                · have HF : Hid (R = none) := by show _ = _; rw [HDEF.out, HL.out, hx2 (by rw [HSD2.out, if_pos (.inr hzl)])]; rfl
                  clear hx1 hx2 hx3 HSD2
                  go_wp2_with (go_at_call 207; refine (HSZ.out _).mono ?_; clear HSZ; rintro e8 w8 ⟨rfl, hw8⟩; rw [hw8]; clear hw8)
                  go_ret2
                  exact ⟨_, by rw [HF.out]; rfl, by rw [HF.out]; exact World.ownsRow_nil _ _ _ _, (HB3w.out.alloc HB3w.out.size _).drew⟩
                · have hsd := HSD2.out
                  rw [if_neg (by omega), Int.toNat_natCast] at hsd
                  have HGO := toHid (HL.out.trans (hx3 _ _ hsd))
                  clear hx1 hx2 hx3 HSD2 hsd
                  have hkl2 : k + 1 ≤ b2.length := by omega
                  have hex : (⟨b2.toArray⟩ : ByteArray).extract 0 k = ⟨(b2.take k).toArray⟩ := by rw [extract_list]; rfl
                  have hex2 : (⟨b2.toArray⟩ : ByteArray).extract (k + 1) b2.length = ⟨(b2.drop (k + 1)).toArray⟩ := by rw [extract_list]; congr 1; simp
                  have HSN := toHid (ecells_snoc l ⟨p, false, b2.take k⟩)
                  have HFT2 : Hid (FitE (l ++ [⟨p, false, b2.take k⟩])) := fun x hx => by
                    rcases List.mem_append.1 hx with h | h
                    · exact HFT.out x h
                    · rw [List.mem_singleton.1 h]; exact ⟨by show p.length ≤ _; omega, by show (b2.take k).length ≤ _; simp; omega⟩
                  by_cases h60 : l.length + 1 > 60
                  · have HF : Hid (R = none) := by show _ = _; rw [HDEF.out, HGO.out, if_pos h60]; rfl
                    go_wp2_with (first | (go_at_call 207; refine (HSZ.out _).mono ?_; clear HSZ; rintro e8 w8 ⟨rfl, hw8⟩; rw [hw8]; clear hw8) | (at_builtin; go_must (refine wpList_append_lies _ rfl _ _ 26 rfl w.heap.size 47 i0 (.agg #[.string ⟨#[]⟩, .bool false, .string ⟨#[]⟩]) 3 40 Tryz.underlying26 hi0 hz0 hz1 hz2 rfl (by decide) _ l.length (ecells l) rfl (own_below HO4.out ((((Below.refl _ w3).alloc (Nat.le_refl _) _).alloc (by simp) _).drew)) ⟨_, 0, none⟩ 1 1 [.string ⟨p.toArray⟩, .bool false, .string ⟨(b2.take k).toArray⟩] rfl rfl (cell_three_add2 _ _ _ _ _ _) (by simp [Value.oneCell']) (by decide) (by unfold maxLen; omega) (by omega) (by simp; have := HB3w.out.size; omega) _ rfl ?_); intro g9 cap9 w9 hown9 hg9 hat9 _; have HO9 := toHid hown9; have HB9 : Hid (Below w.heap.size w w9) := grown_below (((HB3w.out.alloc HB3w.out.size _).alloc (by have := HB3w.out.size; simp; omega) _).drew) (own_below HO4.out ((((Below.refl _ w3).alloc (Nat.le_refl _) _).alloc (by simp) _).drew)) (Nat.le_refl _) (by simp; have := HB3w.out.size; omega) hg9; clear hown9 hg9 hat9))
                    go_ret2
                    exact ⟨_, by rw [HF.out]; rfl, by rw [HF.out]; exact World.ownsRow_nil _ _ _ _, HB9.out⟩
                  · have HG2 : Hid (loopR s = readR (b2.drop (k + 1)) (l ++ [⟨p, false, b2.take k⟩])) := by show _ = _; rw [HGO.out, if_neg h60]
                    go_wp2_with (first | (go_at_call 207; refine (HSZ.out _).mono ?_; clear HSZ; rintro e8 w8 ⟨rfl, hw8⟩; rw [hw8]; clear hw8) | (at_builtin; go_must (refine wpList_append_lies _ rfl _ _ 26 rfl w.heap.size 47 i0 (.agg #[.string ⟨#[]⟩, .bool false, .string ⟨#[]⟩]) 3 40 Tryz.underlying26 hi0 hz0 hz1 hz2 rfl (by decide) _ l.length (ecells l) rfl (own_below HO4.out ((((Below.refl _ w3).alloc (Nat.le_refl _) _).alloc (by simp) _).drew)) ⟨_, 0, none⟩ 1 1 [.string ⟨p.toArray⟩, .bool false, .string ⟨(b2.take k).toArray⟩] rfl rfl (cell_three_add2 _ _ _ _ _ _) (by simp [Value.oneCell']) (by decide) (by unfold maxLen; omega) (by omega) (by simp; have := HB3w.out.size; omega) _ rfl ?_); intro g9 cap9 w9 hown9 hg9 hat9 _; have HO9 := toHid hown9; have HB9 : Hid (Below w.heap.size w w9) := grown_below (((HB3w.out.alloc HB3w.out.size _).alloc (by have := HB3w.out.size; simp; omega) _).drew) (own_below HO4.out ((((Below.refl _ w3).alloc (Nat.le_refl _) _).alloc (by simp) _).drew)) (Nat.le_refl _) (by simp; have := HB3w.out.size; omega) hg9; clear hown9 hg9 hat9))
                    go_roundw
                    case rel =>
                      refine ⟨l ++ [⟨p, false, b2.take k⟩], b2.drop (k + 1), by first | rfl | (rw [hex2]), by show _ ≤ _; simp; omega, by show _ ≤ _; simp; omega, HFT2, HG2, ?_, HB9.out⟩
                      rw [HSN.out, List.length_append]
                      exact HO9
                    case measure => simp [ByteArray.size]; omega
end Go.Proofs.YtgfbbcnnmoamnaaGreatDoor.Tr
