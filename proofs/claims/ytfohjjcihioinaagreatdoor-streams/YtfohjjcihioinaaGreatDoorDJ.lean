/- The program's finder: the longest repetition. -/
import Derived.Test.YtfohjjcihioinaaGreatDoorDI
import Derived.Deep.CutBlock
namespace Go.Proofs.YtfohjjcihioinaaGreatDoor
open Go.RowKit Go.Maps

/-- what the finder tells -/
def Lng (L : List UInt8) (a len back : Nat) : Prop := (len = 0 ∧ back = 0 ∨ Alike L a len back) ∧ (Same L → 1 ≤ a → a + 3 ≤ L.length → len = min 258 (L.length - a) ∧ back = 1)
theorem alk_same {L : List UInt8} {f a n : Nat} (hS : Same L) (hfa : f < a) (h : AlkN L f a n) : n = min 258 (L.length - a) := by
  obtain ⟨h1, h2, h3, h4⟩ := h
  rcases h4 with h4 | h4 | h4
  · omega
  · omega
  · by_cases hlt : a + n < L.length
    · exact absurd ((hS (f + n) (by omega)).trans (hS (a + n) hlt).symm) h4
    · omega
section
variable {F M Bf : Nat} {s : ByteArray} {w : World}
set_option maxHeartbeats 1000000 in
set_option maxRecDepth 8000 in
theorem longest_any (a : Nat) (ha : a ≤ s.size) (w : World) (h : Fnd F M Bf s a w) :
    Calls Tryz.prog 103 #[.pointer (some ⟨F, 0, none⟩), .int .i64 (a : Int)] w fun e w' => ∃ len back : Nat, e = .returned (.tuple #[.int .i64 (len : Int), .int .i64 (back : Int)]) ∧ Below w.heap.size w w' ∧ Lng s.data.toList a len back := by
  have hs := h.hs
  have hss : s.data.toList.length = s.size := by simp
  have hc0 := h.c0
  by_cases h3 : a + 3 ≤ s.size
  · have hl3 : ¬ (s.size : Int) < (a : Int) + 3 := by omega
    have HF := (show Hid (Fnd F M Bf s a w) from h)
    have HSA := (show Hid _ from fun w (hf : Fnd F M Bf s a w) => startAt_any a h3 w hf)
    have HLK := (show Hid _ from fun w1 (hf : Fnd F M Bf s a w1) => hf.look (start3 s.data.toList a))
    have hlo := lastOcc_le s.data.toList (start3 s.data.toList a) a
    have HSV : Hid (Same s.data.toList → 1 ≤ a → lastOcc s.data.toList a (start3 s.data.toList a) = a) := fun hS h1 => hS.last a h1 (by omega)
    obtain ⟨V, HV⟩ := hid_intro (lastOcc s.data.toList a (start3 s.data.toList a))
    rw [← HV.out] at HLK hlo HSV
    obtain ⟨t, Ht⟩ := hid_intro (start3 s.data.toList a)
    rw [← Ht.out] at HSA HLK
    obtain ⟨x, y, z⟩ := t
    unfold keyV at HSA HLK
    simp only [] at HSA HLK
    have k1 := h.drew.c1
    clear h HV Ht
    go_enter Tryz.func103, Tryz.ntmps103
    go_upto_region 3 with fail
    go_cut [6] (fun s6 wx => s6 = .int .i64 (V : Int) ∧ Below w.heap.size w wx)
    case first =>
      go_region_with (go_at_call 163; refine Calls.mono (HSA.out _ HF.out.drew) ?_; rintro r w1 ⟨rfl, hb1⟩; have hf1 := HF.out.drew.below hb1; have k2 := hf1.c1; have hlk := HLK.out w1 hf1; have HB1 := (show Hid (Below w.heap.size w w1) from (⟨hb1.os, hb1.tape, hb1.output, hb1.size, hb1.block⟩ : Below w.heap.size w w1)); clear hb1 hf1)
      all_goals
        go_wp2_with fail
        go_meet
        exact ⟨rfl, HB1.out⟩
    case rest =>
    obtain ⟨rfl, hb⟩ := hcut
    clear k1 hc0 HSA HLK
    go_wp2
    go_loopw [4, 5, 6, 25] (fun vl vb vp vi wr => ∃ i len back pl : Nat, i ≤ 64 ∧ vi = .int .i64 (i : Int) ∧ vl = .int .i64 (len : Int) ∧ vb = .int .i64 (back : Int) ∧ vp = .int .i64 (pl : Int) ∧ pl ≤ a ∧ len ≤ 258 ∧ Below w.heap.size w wr ∧ Hid (len = 0 ∧ back = 0 ∨ Alike s.data.toList a len back) ∧ Hid (Same s.data.toList → 1 ≤ a → (i = 0 ∧ pl = a ∧ len = 0) ∨ (1 ≤ i ∧ len = min 258 (s.size - a) ∧ back = 1))) (fun _ _ _ vi _ => 64 - (intOf vi).toNat)
    case atStart => exact ⟨0, 0, 0, V, by omega, rfl, rfl, rfl, rfl, hlo, by omega, hb, .inl ⟨rfl, rfl⟩, fun hS h1 => .inl ⟨rfl, HSV.out hS h1, rfl⟩⟩
    case round =>
      clear hb HSV hlo
      obtain ⟨i, len, back, pl, hi, rfl, rfl, rfl, rfl, hpl, hlen, hb, HA, HS⟩ := hrel
      have hend : ∀ (hx : ¬ (i = 0 ∧ pl = a ∧ len = 0) ∨ a = 0), Lng s.data.toList a len back := fun hx => ⟨HA.out, fun hS h1 h2 => by
        rcases HS.out hS h1 with h4 | h4
        · rcases hx with hx | hx
          · exact absurd h4 hx
          · omega
        · rw [hss]; exact h4.2⟩
      have HEND := (show Hid _ from hend)
      clear hend
      by_cases hi64 : i < 64
      · by_cases hp0 : pl = 0
        · have hpb : ((pl : Int) == 0) = true := beq_iff_eq.2 (by omega)
          have HP0 := (show Hid _ from hp0)
          clear hp0
          go_wp2
          go_ret2
          exact ⟨len, back, rfl, hb, HEND.out (by by_cases h0 : a = 0; exact .inr h0; exact .inl (fun h => h0 (by have := HP0.out; omega)))⟩
        · have hpb : ((pl : Int) == 0) = false := beq_eq_false_iff_ne.2 (by omega)
          by_cases hl : len = 258
          · have hlb : ((len : Int) == 258) = true := beq_iff_eq.2 (by omega)
            have HL := (show Hid _ from hl)
            clear hl
            go_wp2
            go_ret2
            exact ⟨len, back, rfl, hb, HEND.out (.inl (fun h => by have := HL.out; omega))⟩
          · have hlb : ((len : Int) == 258) = false := beq_eq_false_iff_ne.2 (by omega)
            obtain ⟨f, rfl⟩ : ∃ f, pl = f + 1 := ⟨pl - 1, by omega⟩
            have hF := HF.out.below hb
            have k2 := hF.c2
            have hcB := rowi_cell f hF.bef (by rw [befs_len]; simp; omega)
            have hbg : (befs s.data.toList a).getD f 0 = befAt s.data.toList f := by rw [befs_get, if_pos ⟨by omega, by simp; omega⟩]
            have hbl := befAt_le s.data.toList f
            rw [hbg] at hcB
            obtain ⟨nx, HNX⟩ := hid_intro (befAt s.data.toList f)
            rw [← HNX.out] at hcB hbl
            have HAL := (show Hid _ from alike_any f a (by omega) ha wr hF)
            have HB := (show Hid (Below w.heap.size w wr) from hb)
            have hfi : (f : Int) < (s.size : Int) := by omega
            clear hF hb hbg hp0 hl
            go_upto_if 41 with (go_at_call 164; refine Calls.mono HAL.out ?_; rintro r w2 ⟨n, rfl, hn, m, hw2⟩; rw [hw2]; clear hw2; have hn258 := hn.1; have HNN := (show Hid (AlkN s.data.toList f a n) from hn); clear hn)
            have HBM : Hid (Below w.heap.size w (wr.drewN m)) := below_drewN HB.out m
            by_cases hnl : len < n
            · have HAN : Hid (Alike s.data.toList a n (a - f)) := by
                obtain ⟨q1, q2, q3, q4⟩ := HNN.out
                exact ⟨q1, by omega, by omega, q2, fun i hi => by rw [show a - (a - f) + i = f + i by omega]; exact q3 i hi⟩
              have HSN : Hid (Same s.data.toList → 1 ≤ a → (i + 1 = 0 ∧ nx = a ∧ n = 0) ∨ (1 ≤ i + 1 ∧ n = min 258 (s.size - a) ∧ a - f = 1)) := fun hS h1 => by
                have hnn := alk_same hS (by omega) HNN.out
                rw [hss] at hnn
                rcases HS.out hS h1 with ⟨q1, q2, q3⟩ | ⟨q1, q2, q3⟩
                · exact .inr ⟨by omega, hnn, by omega⟩
                · omega
              have hz : IntKind.i64.wrap ((a : Int) - (f : Int)) = (a : Int) - (f : Int) := by rw [IntKind.wrap_i64]; omega
              go_wp2
              go_roundw
              case rel => exact ⟨i + 1, n, a - f, nx, by omega, by go_num, rfl, by have : ((a - f : Nat) : Int) = (a : Int) - (f : Int) := (by omega); rw [this], rfl, by omega, hn258, HBM.out, .inr HAN.out, HSN⟩
              case measure => simp [intOf]; omega
            · have HSN : Hid (Same s.data.toList → 1 ≤ a → (i + 1 = 0 ∧ nx = a ∧ len = 0) ∨ (1 ≤ i + 1 ∧ len = min 258 (s.size - a) ∧ back = 1)) := fun hS h1 => by
                have hnn := alk_same hS (by omega) HNN.out
                rw [hss] at hnn
                rcases HS.out hS h1 with ⟨q1, q2, q3⟩ | ⟨q1, q2, q3⟩
                · omega
                · exact .inr ⟨by omega, q2, q3⟩
              go_wp2
              go_roundw
              case rel => exact ⟨i + 1, len, back, nx, by omega, by go_num, rfl, rfl, rfl, by omega, hlen, HBM.out, HA, HSN⟩
              case measure => simp [intOf]; omega
      · go_wp2
        go_ret2
        exact ⟨len, back, rfl, hb, HEND.out (.inl (fun h => by omega))⟩
  · have hl3 : (s.size : Int) < (a : Int) + 3 := by omega
    go_enter Tryz.func103, Tryz.ntmps103
    go_wp2
    go_ret2
    exact ⟨0, 0, rfl, Below.refl .., .inl ⟨rfl, rfl⟩, fun _ _ h => by omega⟩
end
end Go.Proofs.YtfohjjcihioinaaGreatDoor
