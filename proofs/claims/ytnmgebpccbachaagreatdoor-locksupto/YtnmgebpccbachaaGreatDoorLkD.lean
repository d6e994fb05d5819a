/- May a module follow others?. -/
import Derived.Test.YtnmgebpccbachaaGreatDoorLkC
namespace Go.Proofs.YtnmgebpccbachaaGreatDoor.Lk
open Go.RowKit Go.Proofs.YtnmgebpccbachaaGreatDoor

/-- some modules lie from a block's head on -/
structure Row (w : World) (g : Nat) (l : List M) : Prop where
  lt : g < w.heap.size
  at0 : ∀ j m, l[j]? = some m → w.cell? ⟨g, j * 3, none⟩ = some (.string ⟨m.n.toArray⟩) ∧ w.cell? ⟨g, j * 3 + 1, none⟩ = some (.string ⟨m.v.toArray⟩) ∧ w.cell? ⟨g, j * 3 + 2, none⟩ = some (.string ⟨m.d.toArray⟩)
theorem Row.below {w w' : World} {g B : Nat} {l : List M} (h : Row w g l) (hb : Below B w w') (hg : g < B) : Row w' g l :=
  ⟨Nat.lt_of_lt_of_le h.lt hb.size, fun j m hj => by
    obtain ⟨h1, h2, h3⟩ := h.at0 j m hj
    exact ⟨(hb.cell hg).trans h1, (hb.cell hg).trans h2, (hb.cell hg).trans h3⟩⟩
theorem mayFollow_go (l : List M) (m : M) (g cap : Nat) (w : World) (hl : l.length ≤ 140737488355328) (hn : l ≠ []) (hr : Row w g l) (hm : okM m = true) (h10 : l.length < 10) :
    Calls Tryz.prog 203 #[.slice (some ⟨g, 0, none⟩) l.length cap, .agg (mv m)] w fun r w' => r = .returned (.bool (mayB l m)) ∧ Below w.heap.size w w' := by
  have hlen : 1 ≤ l.length := List.length_pos_iff.2 hn
  have hlast : l[l.length - 1]? = some (l.getLastD ⟨[], [], []⟩) := by
    rw [List.getLastD_eq_getLast?, List.getLast?_eq_getElem?]
    rw [List.getElem?_eq_getElem (by omega)]; rfl
  have hb : Below w.heap.size w (w.alloc (.cells (mv m) 40 (0, 0))) := (Below.refl _ w).alloc (Nat.le_refl _) _
  have hc := (hb.cell hr.lt).trans (hr.at0 _ _ hlast).1
  have hlt := hr.lt
  have HM : Hid (mayB l m = Op.bytesLess (l.getLastD ⟨[], [], []⟩).n m.n) := by
    show _ = _
    have he : l.isEmpty = false := by cases l with | nil => exact absurd rfl hn | cons a b => rfl
    simp [mayB, hm, he, h10]
  simp only [okM, Bool.and_eq_true] at hm
  obtain ⟨⟨h1, h2⟩, h3⟩ := hm
  obtain ⟨x, HX⟩ := hid_intro (l.getLastD ⟨[], [], []⟩).n
  rw [← HX.out] at hc
  obtain ⟨n, HN⟩ := hid_intro l.length
  rw [← HN.out] at hl hlen hc h10 ⊢
  unfold mv
  unfold mv at hc hb
  obtain ⟨p, hp⟩ : ∃ p, n = p + 1 := ⟨n - 1, by omega⟩
  rw [show n - 1 = p by omega] at hc
  have hw : IntKind.i64.wrap ((n : Int) - 1) = (p : Int) := by rw [IntKind.wrap_i64]; omega
  have hpn : p < n := by omega
  have HP := (show Hid _ from hp)
  clear hp
  have hz : ((n : Int) == 0) = false := beq_eq_false_iff_ne.2 (by omega)
  have hd : decide ((n : Int) < 10) = true := decide_eq_true (by omega)
  go_enter Tryz.func203, Tryz.ntmps203
  go_wp2_with (first
    | (go_at_call 207; refine (IsName_any _ _).mono ?_; rintro e w2 ⟨rfl, hw2⟩; rw [hw2]; clear hw2; first | rw [show nameB (ByteArray.mk m.n.toArray).data.toList = true from h1] | rw [show nameB (ByteArray.mk m.v.toArray).data.toList = true from h2])
    | (go_at_call 255; refine (IsText_any _ _).mono ?_; rintro e w2 ⟨rfl, hw2⟩; rw [hw2]; clear hw2; rw [show digB (ByteArray.mk m.d.toArray).data.toList = true from h3]))
  go_quiet (fail)
  go_wp2
  go_ret
  refine ⟨ret_bool ?_, below_drewN hb _⟩
  rw [HM.out, HX.out]

theorem mayFollow_no (l : List M) (m : M) (v : Value) (w : World) (hm : okM m = false) :
    Calls Tryz.prog 203 #[v, .agg (mv m)] w fun r w' => r = .returned (.bool (mayB l m)) ∧ Below w.heap.size w w' := by
  have e : mayB l m = false := by simp [mayB, hm]
  rw [e]
  have hb : Below w.heap.size w (w.alloc (.cells (mv m) 40 (0, 0))) := (Below.refl _ w).alloc (Nat.le_refl _) _
  simp only [okM] at hm
  unfold mv
  unfold mv at hb
  have HB := (show Hid _ from hb)
  clear hb
  cases h1 : nameB m.n with
  | false =>
    clear hm e
    go_enter Tryz.func203, Tryz.ntmps203
    go_wp2_with (go_at_call 207; refine (IsName_any _ _).mono ?_; rintro e w2 ⟨rfl, hw2⟩; rw [hw2]; clear hw2; rw [show nameB (ByteArray.mk m.n.toArray).data.toList = false from h1])
    go_ret
    exact ⟨rfl, HB.out⟩
  | true =>
    cases h2 : nameB m.v with
    | false =>
      clear hm e
      go_enter Tryz.func203, Tryz.ntmps203
      go_wp2_with (go_at_call 207; refine (IsName_any _ _).mono ?_; rintro e w2 ⟨rfl, hw2⟩; rw [hw2]; clear hw2; first | rw [show nameB (ByteArray.mk m.n.toArray).data.toList = true from h1] | rw [show nameB (ByteArray.mk m.v.toArray).data.toList = false from h2])
      go_ret
      exact ⟨rfl, HB.out⟩
    | true =>
      have h3 : digB m.d = false := by rw [h1, h2] at hm; simpa using hm
      clear hm e
      go_enter Tryz.func203, Tryz.ntmps203
      go_wp2_with (first
        | (go_at_call 207; refine (IsName_any _ _).mono ?_; rintro e w2 ⟨rfl, hw2⟩; rw [hw2]; clear hw2; first | rw [show nameB (ByteArray.mk m.n.toArray).data.toList = true from h1] | rw [show nameB (ByteArray.mk m.v.toArray).data.toList = true from h2])
        | (go_at_call 255; refine (IsText_any _ _).mono ?_; rintro e w2 ⟨rfl, hw2⟩; rw [hw2]; clear hw2; rw [show digB (ByteArray.mk m.d.toArray).data.toList = false from h3]))
      go_ret
      exact ⟨rfl, HB.out⟩
/-- where the number ahead settles it -/
theorem mayFollow_count (l : List M) (m : M) (ao : Option Addr) (cap : Nat) (w : World) (hl : l.length ≤ 140737488355328) (hm : okM m = true) (h10 : l.length = 0 ∨ 10 ≤ l.length) :
    Calls Tryz.prog 203 #[.slice ao l.length cap, .agg (mv m)] w fun r w' => r = .returned (.bool (mayB l m)) ∧ Below w.heap.size w w' := by
  have e : mayB l m = decide (l.length = 0) := by
    rcases h10 with h | h
    · rw [List.length_eq_zero_iff.1 h]; simp [mayB, hm]
    · have he : l.isEmpty = false := by cases l with | nil => simp at h | cons a b => rfl
      have h0 : l ≠ [] := fun e => by rw [e] at h; simp at h
      simp [mayB, hm, he, h0]; omega
  rw [e]
  have hb : Below w.heap.size w (w.alloc (.cells (mv m) 40 (0, 0))) := (Below.refl _ w).alloc (Nat.le_refl _) _
  simp only [okM, Bool.and_eq_true] at hm
  obtain ⟨⟨h1, h2⟩, h3⟩ := hm
  unfold mv
  unfold mv at hb
  have HB := (show Hid _ from hb)
  clear hb e
  obtain ⟨n, HN⟩ := hid_intro l.length
  rw [← HN.out] at hl h10 ⊢
  rcases h10 with h | h
  · have hz : ((n : Int) == 0) = true := beq_iff_eq.2 (by omega)
    have hz2 : decide (n = 0) = true := decide_eq_true h
    rw [hz2]
    have HH := (show Hid _ from h)
    clear h
    go_enter Tryz.func203, Tryz.ntmps203
    go_wp2_with (first
      | (go_at_call 207; refine (IsName_any _ _).mono ?_; rintro e w2 ⟨rfl, hw2⟩; rw [hw2]; clear hw2; first | rw [show nameB (ByteArray.mk m.n.toArray).data.toList = true from h1] | rw [show nameB (ByteArray.mk m.v.toArray).data.toList = true from h2])
      | (go_at_call 255; refine (IsText_any _ _).mono ?_; rintro e w2 ⟨rfl, hw2⟩; rw [hw2]; clear hw2; rw [show digB (ByteArray.mk m.d.toArray).data.toList = true from h3]))
    go_quiet (fail)
    go_wp2
    go_ret
    exact ⟨rfl, below_drewN HB.out _⟩
  · have hz : ((n : Int) == 0) = false := beq_eq_false_iff_ne.2 (by omega)
    have hd : decide ((n : Int) < 10) = false := decide_eq_false (by omega)
    have hz2 : decide (n = 0) = false := decide_eq_false (by omega)
    rw [hz2]
    go_enter Tryz.func203, Tryz.ntmps203
    go_wp2_with (first
      | (go_at_call 207; refine (IsName_any _ _).mono ?_; rintro e w2 ⟨rfl, hw2⟩; rw [hw2]; clear hw2; first | rw [show nameB (ByteArray.mk m.n.toArray).data.toList = true from h1] | rw [show nameB (ByteArray.mk m.v.toArray).data.toList = true from h2])
      | (go_at_call 255; refine (IsText_any _ _).mono ?_; rintro e w2 ⟨rfl, hw2⟩; rw [hw2]; clear hw2; rw [show digB (ByteArray.mk m.d.toArray).data.toList = true from h3]))
    go_quiet (fail)
    go_wp2
    go_ret
    exact ⟨rfl, below_drewN HB.out _⟩
theorem mayFollow_any (l : List M) (m : M) (v : Value) (w : World) (hl : l.length ≤ 140737488355328) (hv : (l = [] ∧ v = .slice none 0 0) ∨ ∃ g cap, v = .slice (some ⟨g, 0, none⟩) l.length cap ∧ Row w g l) :
    Calls Tryz.prog 203 #[v, .agg (mv m)] w fun r w' => r = .returned (.bool (mayB l m)) ∧ Below w.heap.size w w' := by
  cases hm : okM m with
  | false => exact mayFollow_no l m v w hm
  | true =>
    rcases hv with ⟨rfl, rfl⟩ | ⟨g, cap, rfl, hr⟩
    · exact mayFollow_count [] m none 0 w hl hm (.inl rfl)
    · rcases (by omega : l.length = 0 ∨ (1 ≤ l.length ∧ l.length < 10) ∨ 10 ≤ l.length) with h | h | h
      · exact mayFollow_count l m _ cap w hl hm (.inl h)
      · exact mayFollow_go l m g cap w hl (fun e => by rw [e] at h; simp at h) hr hm h.2
      · exact mayFollow_count l m _ cap w hl hm (.inr h)
end Go.Proofs.YtnmgebpccbachaaGreatDoor.Lk
