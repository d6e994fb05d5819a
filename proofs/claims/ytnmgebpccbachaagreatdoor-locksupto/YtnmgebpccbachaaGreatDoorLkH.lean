/- The document's look at modules: the first that may not be where it is. -/
import Derived.Test.YtnmgebpccbachaaGreatDoorLkF
import Derived.Test.YtnmgebpccbachaaGreatDoorLkE
namespace Go.Proofs.YtnmgebpccbachaaGreatDoor.Lk
open Go.RowKit Go.Proofs.YtnmgebpccbachaaGreatDoor

/-- some modules lie wherever they lie -/
def Lies (w : World) (ao : Option Addr) (l : List M) : Prop := l = [] ∨ ∃ g o, ao = some ⟨g, o, none⟩ ∧ g < w.heap.size ∧
  ∀ j m, l[j]? = some m → w.cell? ⟨g, o + j * 3, none⟩ = some (.string ⟨m.n.toArray⟩) ∧ w.cell? ⟨g, o + j * 3 + 1, none⟩ = some (.string ⟨m.v.toArray⟩) ∧ w.cell? ⟨g, o + j * 3 + 2, none⟩ = some (.string ⟨m.d.toArray⟩)
theorem Row.lies {w : World} {g : Nat} {l : List M} (h : Row w g l) : Lies w (some ⟨g, 0, none⟩) l :=
  .inr ⟨g, 0, rfl, h.lt, fun j m hj => by simpa using h.at0 j m hj⟩
theorem Lies.below {w w' : World} {ao : Option Addr} {l : List M} (h : Lies w ao l) (hb : Below w.heap.size w w') : Lies w' ao l := by
  rcases h with h | ⟨g, o, h1, h2, h3⟩
  · exact .inl h
  · exact .inr ⟨g, o, h1, Nat.lt_of_lt_of_le h2 hb.size, fun j m hj => by
      obtain ⟨c1, c2, c3⟩ := h3 j m hj
      exact ⟨(hb.cell h2).trans c1, (hb.cell h2).trans c2, (hb.cell h2).trans c3⟩⟩
/-- no text of theirs is longer than a text may be -/
def Fit (l : List M) : Prop := ∀ m ∈ l, m.n.length ≤ 1048576 ∧ m.v.length ≤ 1048576 ∧ m.d.length ≤ 1048576

theorem okAt_of {l : List M} {i : Nat} {m : M} (h : l[i]? = some m) : okAt l i = mayB (l.take i) m := by
  unfold okAt; rw [List.getD_eq_getElem?_getD, h]; rfl
theorem okAt_no {l : List M} {i : Nat} {m : M} (h : l[i]? = some m) (hm : okM m = false) : okAt l i = false := by
  rw [okAt_of h]; simp [mayB, hm]
theorem okAt_big {l : List M} {i : Nat} {m : M} (h : l[i]? = some m) (hi : 10 ≤ i) : okAt l i = false := by
  have hl := (List.getElem?_eq_some_iff.1 h).1
  have ht : (l.take i).length = i := by simp; omega
  have he : (l.take i).isEmpty = false := by
    cases e : l.take i with
    | nil => rw [e] at ht; simp at ht; omega
    | cons a b => rfl
  rw [okAt_of h, mayB, he, ht, decide_eq_false (by omega)]; simp
theorem okAt_zero {l : List M} {m : M} (h : l[0]? = some m) (hm : okM m = true) : okAt l 0 = true := by
  rw [okAt_of h]; simp [mayB, hm]
theorem okAt_mid {l : List M} {p : Nat} {q m : M} (h : l[p + 1]? = some m) (hq : l[p]? = some q) (hm : okM m = true) (hi : p + 1 < 10) : okAt l (p + 1) = Op.bytesLess q.n m.n := by
  have hl := (List.getElem?_eq_some_iff.1 h).1
  have ht : (l.take (p + 1)).length = p + 1 := by simp; omega
  have he : (l.take (p + 1)).isEmpty = false := by
    cases e : l.take (p + 1) with
    | nil => rw [e] at ht; simp at ht
    | cons a b => rfl
  have hlast : (l.take (p + 1)).getLastD ⟨[], [], []⟩ = q := by
    rw [List.getLastD_eq_getLast?, List.getLast?_eq_getElem?, ht, List.getElem?_take_of_lt (by omega), show p + 1 - 1 = p by omega, hq]; rfl
  rw [okAt_of h, mayB, he, ht, hlast, hm, decide_eq_true hi]; simp
theorem size_of (l : List UInt8) : (⟨l.toArray⟩ : ByteArray).size = l.length := by simp [ByteArray.size]
set_option maxRecDepth 8000 in
set_option maxHeartbeats 1000000 in
theorem rLocks_any (l : List M) (hl : l.length ≤ 1048576) (hft : Fit l) (ao : Option Addr) (cap : Nat) (w : World) (hat : Lies w ao l) :
    Calls Tryz.prog 78 #[.slice ao l.length cap] w fun r w' => r = .returned (.int .i64 (firstBad l : Int)) ∧ ∃ q, w' = w.drewN q := by
  have HAT : Hid (Lies w ao l) := hat
  have HFT : Hid (Fit l) := hft
  clear hat hft
  obtain ⟨n, HN⟩ := hid_intro l.length
  rw [← HN.out] at hl ⊢
  go_enter Tryz.func78, Tryz.ntmps78
  go_wp2
  go_loopw [3] (fun vi wr => ∃ i q : Nat, i ≤ n ∧ vi = .int .i64 i ∧ wr = w.drewN q ∧ Hid (∀ j, j < i → okAt l j = true)) (fun vi _ => n - (intOf vi).toNat)
  case atStart => exact ⟨0, 0, by omega, rfl, rfl, fun j hj => by omega⟩
  case round =>
    obtain ⟨i, q, hi, rfl, hw, HA⟩ := hrel
    rw [hw]; clear hw
    by_cases hlt : i < n
    · obtain ⟨m, hm⟩ : ∃ m, l[i]? = some m := ⟨l[i]'(by rw [← HN.out]; exact hlt), List.getElem?_eq_getElem _⟩
      have hmm : m ∈ l := List.mem_of_getElem? hm
      obtain ⟨z1, z2, z3⟩ := HFT.out m hmm
      rcases HAT.out with h0 | ⟨g, o, rfl, hgl, hc⟩
      · rw [h0] at hm; simp at hm
      obtain ⟨c1, c2, c3⟩ := hc i m hm
      have HT : okAt l i = true → Hid (∀ j, j < i + 1 → okAt l j = true) := fun h j hj => by
        by_cases e : j = i
        · rw [e]; exact h
        · exact HA.out j (by omega)
      have HF : okAt l i = false → Hid (firstBad l = i + 1) := fun h => firstBad_at (by rw [← HN.out]; exact hlt) h HA.out
      have HM := (show Hid _ from hm)
      have HCC := (show Hid _ from hc)
      have HN1 := (show Hid _ from rName_any ⟨m.n.toArray⟩ (by rw [size_of]; omega))
      have HN2 := (show Hid _ from rName_any ⟨m.v.toArray⟩ (by rw [size_of]; omega))
      have HN3 := (show Hid _ from rdigest_any ⟨m.d.toArray⟩ (by rw [size_of]; omega))
      clear hm hmm z1 z2 z3 hc HA
      cases hk : okM m with
      | false =>
        have HP := HF (okAt_no HM.out hk)
        clear HT HF HCC
        simp only [okM] at hk
        have hk' : nameB m.n = false ∨ (nameB m.n = true ∧ nameB m.v = false) ∨ (nameB m.n = true ∧ nameB m.v = true ∧ digB m.d = false) := by
          cases a : nameB m.n <;> cases b : nameB m.v <;> cases c : digB m.d <;> simp_all
        clear hk
        rcases hk' with h1 | ⟨h1, h2⟩ | ⟨h1, h2, h3⟩
        · rw [show nameB (ByteArray.mk m.n.toArray).data.toList = false from h1] at HN1
          cases h2 : nameB m.v <;> cases h3 : digB m.d
          · rw [show nameB (ByteArray.mk m.v.toArray).data.toList = false from h2] at HN2
            rw [show digB (ByteArray.mk m.d.toArray).data.toList = false from h3] at HN3
            go_wp2_with (first
              | (go_at_call 146; refine (HN1.out _).mono ?_; clear HN1; rintro e w2 ⟨rfl, hw2⟩; rw [hw2]; clear hw2)
              | (go_at_call 146; refine (HN2.out _).mono ?_; clear HN2; rintro e w2 ⟨rfl, hw2⟩; rw [hw2]; clear hw2)
              | (go_at_call 147; refine (HN3.out _).mono ?_; clear HN3; rintro e w2 ⟨rfl, hw2⟩; rw [hw2]; clear hw2))
            go_quiet (fail)
            go_wp2
            go_ret
            exact ⟨by rw [HP.out]; go_num, _, rfl⟩
          · rw [show nameB (ByteArray.mk m.v.toArray).data.toList = false from h2] at HN2
            rw [show digB (ByteArray.mk m.d.toArray).data.toList = true from h3] at HN3
            go_wp2_with (first
              | (go_at_call 146; refine (HN1.out _).mono ?_; clear HN1; rintro e w2 ⟨rfl, hw2⟩; rw [hw2]; clear hw2)
              | (go_at_call 146; refine (HN2.out _).mono ?_; clear HN2; rintro e w2 ⟨rfl, hw2⟩; rw [hw2]; clear hw2)
              | (go_at_call 147; refine (HN3.out _).mono ?_; clear HN3; rintro e w2 ⟨rfl, hw2⟩; rw [hw2]; clear hw2))
            go_quiet (fail)
            go_wp2
            go_ret
            exact ⟨by rw [HP.out]; go_num, _, rfl⟩
          · rw [show nameB (ByteArray.mk m.v.toArray).data.toList = true from h2] at HN2
            rw [show digB (ByteArray.mk m.d.toArray).data.toList = false from h3] at HN3
            go_wp2_with (first
              | (go_at_call 146; refine (HN1.out _).mono ?_; clear HN1; rintro e w2 ⟨rfl, hw2⟩; rw [hw2]; clear hw2)
              | (go_at_call 146; refine (HN2.out _).mono ?_; clear HN2; rintro e w2 ⟨rfl, hw2⟩; rw [hw2]; clear hw2)
              | (go_at_call 147; refine (HN3.out _).mono ?_; clear HN3; rintro e w2 ⟨rfl, hw2⟩; rw [hw2]; clear hw2))
            go_quiet (fail)
            go_wp2
            go_ret
            exact ⟨by rw [HP.out]; go_num, _, rfl⟩
          · rw [show nameB (ByteArray.mk m.v.toArray).data.toList = true from h2] at HN2
            rw [show digB (ByteArray.mk m.d.toArray).data.toList = true from h3] at HN3
            go_wp2_with (first
              | (go_at_call 146; refine (HN1.out _).mono ?_; clear HN1; rintro e w2 ⟨rfl, hw2⟩; rw [hw2]; clear hw2)
              | (go_at_call 146; refine (HN2.out _).mono ?_; clear HN2; rintro e w2 ⟨rfl, hw2⟩; rw [hw2]; clear hw2)
              | (go_at_call 147; refine (HN3.out _).mono ?_; clear HN3; rintro e w2 ⟨rfl, hw2⟩; rw [hw2]; clear hw2))
            go_quiet (fail)
            go_wp2
            go_ret
            exact ⟨by rw [HP.out]; go_num, _, rfl⟩
        · rw [show nameB (ByteArray.mk m.n.toArray).data.toList = true from h1] at HN1
          rw [show nameB (ByteArray.mk m.v.toArray).data.toList = false from h2] at HN2
          cases h3 : digB m.d
          · rw [show digB (ByteArray.mk m.d.toArray).data.toList = false from h3] at HN3
            go_wp2_with (first
              | (go_at_call 146; refine (HN1.out _).mono ?_; clear HN1; rintro e w2 ⟨rfl, hw2⟩; rw [hw2]; clear hw2)
              | (go_at_call 146; refine (HN2.out _).mono ?_; clear HN2; rintro e w2 ⟨rfl, hw2⟩; rw [hw2]; clear hw2)
              | (go_at_call 147; refine (HN3.out _).mono ?_; clear HN3; rintro e w2 ⟨rfl, hw2⟩; rw [hw2]; clear hw2))
            go_quiet (fail)
            go_wp2
            go_ret
            exact ⟨by rw [HP.out]; go_num, _, rfl⟩
          · rw [show digB (ByteArray.mk m.d.toArray).data.toList = true from h3] at HN3
            go_wp2_with (first
              | (go_at_call 146; refine (HN1.out _).mono ?_; clear HN1; rintro e w2 ⟨rfl, hw2⟩; rw [hw2]; clear hw2)
              | (go_at_call 146; refine (HN2.out _).mono ?_; clear HN2; rintro e w2 ⟨rfl, hw2⟩; rw [hw2]; clear hw2)
              | (go_at_call 147; refine (HN3.out _).mono ?_; clear HN3; rintro e w2 ⟨rfl, hw2⟩; rw [hw2]; clear hw2))
            go_quiet (fail)
            go_wp2
            go_ret
            exact ⟨by rw [HP.out]; go_num, _, rfl⟩
        · rw [show nameB (ByteArray.mk m.n.toArray).data.toList = true from h1] at HN1
          rw [show nameB (ByteArray.mk m.v.toArray).data.toList = true from h2] at HN2
          rw [show digB (ByteArray.mk m.d.toArray).data.toList = false from h3] at HN3
          go_wp2_with (first
            | (go_at_call 146; refine (HN1.out _).mono ?_; clear HN1; rintro e w2 ⟨rfl, hw2⟩; rw [hw2]; clear hw2)
            | (go_at_call 146; refine (HN2.out _).mono ?_; clear HN2; rintro e w2 ⟨rfl, hw2⟩; rw [hw2]; clear hw2)
            | (go_at_call 147; refine (HN3.out _).mono ?_; clear HN3; rintro e w2 ⟨rfl, hw2⟩; rw [hw2]; clear hw2))
          go_quiet (fail)
          go_wp2
          go_ret
          exact ⟨by rw [HP.out]; go_num, _, rfl⟩
      | true =>
        have HK := (show Hid _ from hk)
        simp only [okM, Bool.and_eq_true] at hk
        obtain ⟨⟨h1, h2⟩, h3⟩ := hk
        rw [show nameB (ByteArray.mk m.n.toArray).data.toList = true from h1] at HN1
        rw [show nameB (ByteArray.mk m.v.toArray).data.toList = true from h2] at HN2
        rw [show digB (ByteArray.mk m.d.toArray).data.toList = true from h3] at HN3
        rcases (by omega : 10 ≤ i ∨ i = 0 ∨ (1 ≤ i ∧ i < 10)) with hi10 | hi0 | hi1
        · have HP := HF (okAt_big HM.out hi10)
          have d1 : decide (10 ≤ (i : Int)) = true := decide_eq_true (by omega)
          clear HT HF HCC
          go_wp2_with (first
            | (go_at_call 146; refine (HN1.out _).mono ?_; clear HN1; rintro e w2 ⟨rfl, hw2⟩; rw [hw2]; clear hw2)
            | (go_at_call 146; refine (HN2.out _).mono ?_; clear HN2; rintro e w2 ⟨rfl, hw2⟩; rw [hw2]; clear hw2)
            | (go_at_call 147; refine (HN3.out _).mono ?_; clear HN3; rintro e w2 ⟨rfl, hw2⟩; rw [hw2]; clear hw2))
          go_quiet (fail)
          go_wp2
          go_ret
          exact ⟨by rw [HP.out]; go_num, _, rfl⟩
        · have HP := HT (by have e := HM.out; rw [hi0] at e ⊢; exact okAt_zero e HK.out)
          have d1 : decide (10 ≤ (i : Int)) = false := decide_eq_false (by omega)
          have d2 : decide (0 < i) = false := decide_eq_false (by omega)
          have HI0 := (show Hid _ from hi0)
          clear HT HF HCC hi0
          go_wp2_with (first
            | (go_at_call 146; refine (HN1.out _).mono ?_; clear HN1; rintro e w2 ⟨rfl, hw2⟩; rw [hw2]; clear hw2)
            | (go_at_call 146; refine (HN2.out _).mono ?_; clear HN2; rintro e w2 ⟨rfl, hw2⟩; rw [hw2]; clear hw2)
            | (go_at_call 147; refine (HN3.out _).mono ?_; clear HN3; rintro e w2 ⟨rfl, hw2⟩; rw [hw2]; clear hw2))
          go_quiet (fail)
          go_wp2
          go_roundw
          case rel => exact ⟨i + 1, _, by omega, by go_num, by first | rfl | rw [World.drewN_drewN], HP⟩
          case measure => simp [intOf]; omega
        · obtain ⟨p, rfl⟩ : ∃ p, i = p + 1 := ⟨i - 1, by omega⟩
          obtain ⟨q0, hq0⟩ : ∃ q0, l[p]? = some q0 := ⟨l[p]'(by have := HN.out; omega), List.getElem?_eq_getElem _⟩
          have c0 := (HCC.out p q0 hq0).1
          have hok := okAt_mid HM.out hq0 HK.out (by omega)
          have d1 : decide (10 ≤ ((p + 1 : Nat) : Int)) = false := decide_eq_false (by omega)
          have d2 : decide (0 < p + 1) = true := decide_eq_true (by omega)
          obtain ⟨i, HI⟩ := hid_intro (p + 1)
          rw [← HI.out] at hi hlt HM HT HF hok d1 d2 hi1 c1 c2 c3 ⊢
          have hw : IntKind.i64.wrap ((i : Int) - 1) = (p : Int) := by rw [IntKind.wrap_i64]; have := HI.out; omega
          have hpn : p < n := by have := HI.out; omega
          clear hq0 HCC
          cases hb : Op.bytesLess q0.n m.n with
          | true =>
            have HP := HT (hok.trans hb)
            clear HT HF hok
            go_wp2_with (first
              | (go_at_call 146; refine (HN1.out _).mono ?_; clear HN1; rintro e w2 ⟨rfl, hw2⟩; rw [hw2]; clear hw2)
              | (go_at_call 146; refine (HN2.out _).mono ?_; clear HN2; rintro e w2 ⟨rfl, hw2⟩; rw [hw2]; clear hw2)
              | (go_at_call 147; refine (HN3.out _).mono ?_; clear HN3; rintro e w2 ⟨rfl, hw2⟩; rw [hw2]; clear hw2))
            go_quiet (fail)
            go_wp2
            go_roundw
            case rel => exact ⟨i + 1, _, by omega, by go_num, by first | rfl | rw [World.drewN_drewN], HP⟩
            case measure => simp [intOf]; omega
          | false =>
            have HP := HF (hok.trans hb)
            clear HT HF hok
            go_wp2_with (first
              | (go_at_call 146; refine (HN1.out _).mono ?_; clear HN1; rintro e w2 ⟨rfl, hw2⟩; rw [hw2]; clear hw2)
              | (go_at_call 146; refine (HN2.out _).mono ?_; clear HN2; rintro e w2 ⟨rfl, hw2⟩; rw [hw2]; clear hw2)
              | (go_at_call 147; refine (HN3.out _).mono ?_; clear HN3; rintro e w2 ⟨rfl, hw2⟩; rw [hw2]; clear hw2))
            go_quiet (fail)
            go_wp2
            go_ret
            exact ⟨by rw [HP.out]; go_num, _, rfl⟩
    · obtain rfl : i = n := by omega
      have HP := (show Hid _ from firstBad_none (l := l) (fun j hj => HA.out j (by rw [HN.out]; exact hj)))
      clear HA
      go_wp2
      go_ret
      exact ⟨by rw [HP.out]; rfl, _, rfl⟩
end Go.Proofs.YtnmgebpccbachaaGreatDoor.Lk
