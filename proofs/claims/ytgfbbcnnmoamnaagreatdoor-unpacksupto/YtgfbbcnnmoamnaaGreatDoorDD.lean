/- The program's bytes and repetitions, written. -/
import Derived.Test.YtgfbbcnnmoamnaaGreatDoorDB
import Derived.Test.YtgfbbcnnmoamnaaGreatDoorMid
namespace Go.Proofs.YtgfbbcnnmoamnaaGreatDoor
open Go.RowKit

/-- the cells of a row of words -/
def wcells (l : List (Nat × Nat)) : List Value := l.flatMap fun p => [.int .i64 (p.1 : Int), .int .i64 (p.2 : Int)]
theorem wcells_get (l : List (Nat × Nat)) : ∀ (i : Nat), i < l.length → (wcells l)[i * 2]? = some (.int .i64 (((l.getD i (0, 0)).1 : Nat) : Int)) ∧ (wcells l)[i * 2 + 1]? = some (.int .i64 (((l.getD i (0, 0)).2 : Nat) : Int)) := by
  induction l with
  | nil => intro i h; simp at h
  | cons p l ih =>
    intro i h
    cases i with
    | zero => simp [wcells]
    | succ i =>
      have := ih i (by simpa using h)
      have e : (i + 1) * 2 = i * 2 + 1 + 1 := by omega
      have e2 : wcells (p :: l) = .int .i64 (p.1 : Int) :: .int .i64 (p.2 : Int) :: wcells l := by simp [wcells]
      rw [e, e2, List.getElem?_cons_succ, List.getElem?_cons_succ, show i * 2 + 1 + 1 + 1 = (i * 2 + 1) + 1 + 1 by omega, List.getElem?_cons_succ, List.getElem?_cons_succ]
      simpa using this
theorem wcells_len (l : List (Nat × Nat)) : (wcells l).length = 2 * l.length := by
  induction l with
  | nil => rfl
  | cons p l ih => rw [show wcells (p :: l) = .int .i64 (p.1 : Int) :: .int .i64 (p.2 : Int) :: wcells l by simp [wcells]]; simp [ih]; omega
/-- a row of words that the writer does not own -/
def WTab (g : Nat) (v : Value) (l : List (Nat × Nat)) (o : Value) (w : World) : Prop := ∃ b, v = .slice (some ⟨b, 0, none⟩) l.length l.length ∧ b ≠ g ∧ o.ownBlock ≠ some b ∧ w.heap[b]? = some (.cells (wcells l).toArray 124 (0, 0))
theorem WTab.step {g : Nat} {v : Value} {l : List (Nat × Nat)} {o o' : Value} {w w' : World} (t : WTab g v l o w) (st : Step g o o' w w') : WTab g v l o' w' := by
  obtain ⟨b, hv, h1, h2, h3⟩ := t
  refine ⟨b, hv, h1, fun e => ?_, (st.block b (lt_of_block h3) h1 h2).trans h3⟩
  rcases st.moved b e with e' | e'
  · exact h2 e'
  · have := lt_of_block h3; omega
theorem WTab.drew {g : Nat} {v : Value} {l : List (Nat × Nat)} {o : Value} {w : World} (t : WTab g v l o w) : WTab g v l o w.drew := t
theorem WTab.range {w : World} {b : Nat} {l : List (Nat × Nat)} {T : TypeId} (h : w.heap[b]? = some (.cells (wcells l).toArray T (0, 0))) (i : Nat) (hi : i < l.length) (p : Nat × Nat) (hp : l.getD i (0, 0) = p) :
    w.rangeAt b (i * 2) (#[Value.int .i64 (p.1 : Int), .int .i64 (p.2 : Int)] : Array Value).toList := by
  subst hp
  obtain ⟨h1, h2⟩ := wcells_get l i hi
  intro j v hj
  rw [cell_of_row w b _ _ _ _ h, List.getElem?_toArray]
  match j, hj with
  | 0, hj => rw [Nat.add_zero, h1]; simpa using hj
  | 1, hj => rw [h2]; simpa using hj
  | j + 2, hj => simp at hj
def fixWords : List (Nat × Nat) := (List.range 288).map fixWord
def distWords : List (Nat × Nat) := (List.range 32).map fun y => (y, 5)
theorem fixWords_len : fixWords.length = 288 := by simp [fixWords]
theorem distWords_len : distWords.length = 32 := by simp [distWords]
theorem fixWords_get (i : Nat) (h : i < 288) : fixWords.getD i (0, 0) = fixWord i := by simp [fixWords, h]
theorem distWords_get (i : Nat) (h : i < 32) : distWords.getD i (0, 0) = (i, 5) := by simp [distWords, h]
theorem sizeWord : (Tryz.prog.info? 124).map (·.size) = some 2 := by kernel_rfl
theorem fixWord_le (x : Nat) (h : x < 288) : (fixWord x).1 < 1000000 ∧ (fixWord x).2 ≤ 16 := by
  have := fix_ok x h
  have h2 : (2:Nat) ^ (fixWord x).2 ≤ 2 ^ 9 := Nat.pow_le_pow_right (by omega) (by omega)
  omega
section
variable {g : Nat} {vl vd : Value} {b : List Nat} {o : Value}
theorem BW.c2 {T : TypeId} {r0 : Value} {rest : List Value} {w : World} (h : BW g T (r0 :: rest) b o w) : w.cell? ⟨g, 2, none⟩ = some r0 := by obtain ⟨_, _, h⟩ := h; exact (cell_of_row w g 2 _ _ _ h.blk).trans (by simp)
theorem BW.c3 {T : TypeId} {r0 r1 : Value} {rest : List Value} {w : World} (h : BW g T (r0 :: r1 :: rest) b o w) : w.cell? ⟨g, 3, none⟩ = some r1 := by obtain ⟨_, _, h⟩ := h; exact (cell_of_row w g 3 _ _ _ h.blk).trans (by simp)
set_option maxHeartbeats 1000000 in
set_option maxRecDepth 8000 in
theorem literal_any (c : Nat) (hc : c < 256) (w : World) (h : BW g 115 [vl, vd] b o w) (hb : b.length + 9 < 400000) (tl : WTab g vl fixWords o w) :
    Calls Tryz.prog 54 #[.pointer (some ⟨g, 0, none⟩), .int .u8 (c : Int)] w fun e w' => e = .returned (.tuple #[]) ∧ ∃ o', BW g 115 [vl, vd] (b ++ litBits c) o' w' ∧ Step g o o' w w' := by
  have h2 := h.c2
  have hp := fixWord_le c (by omega)
  have hok := fix_ok c (by omega)
  have HH : Hid (BW g 115 [vl, vd] b o w) := h
  obtain ⟨bl, rfl, hb1, hb2, hb3⟩ := tl
  rw [fixWords_len] at h2
  have hr := WTab.range (w := w.drew) hb3 c (by rw [fixWords_len]; omega) (fixWord c) (fixWords_get c (by omega))
  unfold litBits
  have HL : Hid ((fixWord c).2 ≤ 9) := hok.2.2.1
  obtain ⟨p, HP⟩ := hid_intro (fixWord c)
  rw [← HP.out] at hr hp HL ⊢
  have hci : (c : Int) < 288 := by omega
  clear h hok
  go_enter Tryz.func54, Tryz.ntmps54
  refine region_mid 10 _ _ rfl rfl (by kernel_rfl) (by kernel_rfl) ?_
  simp only [List.take_succ_cons, List.take_zero]
  still_step
  still_step
  still_step
  still_step
  still_step
  still_step
  still_step
  still_step
  still_step
  refine wpStill_step (fun K hK => ?_)
  refine still_load_mid 124 (.tmp 12) rfl bl (c * 2) rfl _ _ hr Tryz.underlying124 rfl sizeWord (hK _ ?_)
  clear hK K
  repeat still_step
  refine wpStill_nil (fun K hK => ?_)
  go_simp
  refine (wword_any p.1 p.2 hp.1 hp.2 _ HH.out.drew (by have := HL.out; omega)).mono ?_; rintro e w1 ⟨rfl, o1, hb1, st1⟩
  refine hK _ _ ?_
  clear hK K
  repeat still_step
  refine wpStill_nil ?_
  go_wp2
  refine bodyPost_end (results_none rfl _ _ _) rfl ⟨rfl, o1, hb1, (Step.drew (Step.refl ..)).trans st1⟩
theorem wnumber_v {T : TypeId} {rest : List Value} (v n : Nat) (hv : v < 1000000) (hn : n ≤ 16) (w : World) (h : BW g T rest b o w) (hb : b.length + n < 400000) {u : Int} (hu : u = (v : Int)) :
    Calls Tryz.prog 51 #[.pointer (some ⟨g, 0, none⟩), .int .i64 u, .int .i64 (n : Int)] w fun e w' => e = .returned (.tuple #[]) ∧ ∃ o', BW g T rest (b ++ numBits v n) o' w' ∧ Step g o o' w w' := by
  subst hu; exact wnumber_any v n hv hn w h hb
set_option maxHeartbeats 1000000 in
set_option maxRecDepth 8000 in
theorem dwithin_any (v : Nat) (p : Nat × Nat) (hp : p.1 ≤ v) (hv : v < 1000000) (hn : p.2 ≤ 16) (w : World) (h : BW g 115 [vl, vd] b o w) (hb : b.length + p.2 < 400000) :
    Calls Tryz.prog 118 #[.pointer (some ⟨g, 0, none⟩), .int .i64 (v : Int), spanV p] w fun e w' => e = .returned (.tuple #[]) ∧ ∃ o', BW g 115 [vl, vd] (b ++ numBits (v - p.1) p.2) o' w' ∧ Step g o o' w w' := by
  obtain ⟨x, y⟩ := p
  simp only [] at hp hn hb ⊢
  have HH : Hid (BW g 115 [vl, vd] b o w) := h
  clear h
  unfold spanV
  go_enter Tryz.func118, Tryz.ntmps118
  go_wp2
  refine region_mid 9 _ _ rfl rfl (by kernel_rfl) (by kernel_rfl) ?_
  simp only [List.take_succ_cons, List.take_zero]
  repeat still_step
  refine wpStill_nil (fun K hK => ?_)
  go_simp
  refine (wnumber_v (v - x) y (by omega) hn _ (HH.out.alloc _).drew hb (by rw [IntKind.wrap_i64]; omega)).mono ?_; rintro e w1 ⟨rfl, o1, hb1, st1⟩
  refine hK _ _ ?_
  clear hK K
  repeat still_step
  refine wpStill_nil ?_
  go_wp2
  refine bodyPost_end (results_none rfl _ _ _) rfl ⟨rfl, o1, hb1, ((Step.alloc (Step.refl ..) _).drew).trans st1⟩
set_option maxHeartbeats 1000000 in
set_option maxRecDepth 8000 in
theorem drepeat_any (l k : Nat) (h1 : 3 ≤ l) (h2 : l ≤ 258) (h3 : 1 ≤ k) (h4 : k ≤ 32768) (w : World) (h : BW g 115 [vl, vd] b o w) (hb : b.length + 40 < 400000) (tl : WTab g vl fixWords o w) (td : WTab g vd distWords o w) :
    Calls Tryz.prog 55 #[.pointer (some ⟨g, 0, none⟩), .int .i64 (l : Int), .int .i64 (k : Int)] w fun e w' => e = .returned (.tuple #[]) ∧ ∃ o', BW g 115 [vl, vd] (b ++ repBits l k) o' w' ∧ Step g o o' w w' := by
  obtain ⟨l1, l2, l3⟩ := lenSym_ok l h1 h2
  obtain ⟨d1, d2, d3⟩ := distSym_ok k h3 h4
  unfold repBits litBits
  have hw := fix_ok (257 + lenSym l) (by omega)
  have hwl := fixWord_le (257 + lenSym l) (by omega)
  have hlm : (lenSpan (lenSym l)).2 ≤ 5 := (rep_word l h1 h2).2
  have hdm : (distSpan (distSym k)).2 ≤ 13 := by
    have : ∀ y, y < 30 → (distSpan y).2 ≤ 13 := by decide +kernel
    exact this _ (by omega)
  have HS1 := (show Hid _ from fun w => lengthSymbol_any l h1 h2 w)
  have HS2 := (show Hid _ from fun w => distanceSymbol_any k h3 h4 w)
  have HP1 := (show Hid _ from fun w => lengthSpan_any (257 + lenSym l) (by omega) (by omega) w)
  have HP2 := (show Hid _ from fun w => distanceSpan_any (distSym k) (by omega) w)
  rw [show 257 + lenSym l - 257 = lenSym l by omega] at HP1
  have hg1 := fixWords_get (257 + lenSym l) (by omega)
  have hg2 := distWords_get (distSym k) (by omega)
  obtain ⟨X, HX⟩ := hid_intro (257 + lenSym l)
  have hX : X < 288 := by have := HX.out; omega
  obtain ⟨Y, HY⟩ := hid_intro (distSym k)
  rw [← HX.out] at hw hwl HS1 HP1 hg1
  rw [← HY.out] at HS2 HP2 hg2 d1 d2 hdm
  obtain ⟨p, HP⟩ := hid_intro (fixWord X)
  obtain ⟨sl, HSL⟩ := hid_intro (lenSpan (lenSym l))
  obtain ⟨sd, HSD⟩ := hid_intro (distSpan Y)
  rw [← HP.out] at hw hwl hg1
  rw [← HSL.out] at HP1 l2 hlm
  rw [← HSD.out] at HP2 d2 hdm
  rw [← HX.out, ← HP.out, ← HSL.out, ← HY.out, ← HSD.out]
  have hp9 : p.2 ≤ 9 := hw.2.2.1
  clear hw l3 d3
  have HH : Hid (BW g 115 [vl, vd] b o w) := h
  have HTL : Hid (WTab g vl fixWords o w) := tl
  have HTD : Hid (WTab g vd distWords o w) := td
  obtain ⟨bl, hvl, _⟩ := tl
  obtain ⟨bd, hvd, _⟩ := td
  rw [fixWords_len] at hvl
  rw [distWords_len] at hvd
  have hr1 : ∀ o' w', WTab g vl fixWords o' w' → w'.drew.rangeAt bl (X * 2) (#[Value.int .i64 (p.1 : Int), .int .i64 (p.2 : Int)] : Array Value).toList := fun o' w' ⟨b', e, _, _, h3⟩ => by
    rw [hvl] at e; injection e with e; injection e with e; injection e with e; subst e
    exact WTab.range (w := w'.drew) h3 X (by rw [fixWords_len]; omega) p hg1
  have hr2 : ∀ o' w', WTab g vd distWords o' w' → w'.drew.rangeAt bd (Y * 2) (#[Value.int .i64 ((Y : Nat) : Int), .int .i64 ((5 : Nat) : Int)] : Array Value).toList := fun o' w' ⟨b', e, _, _, h3⟩ => by
    rw [hvd] at e; injection e with e; injection e with e; injection e with e; subst e
    exact WTab.range (w := w'.drew) h3 Y (by rw [distWords_len]; omega) (Y, 5) hg2
  have HR1 := (show Hid _ from hr1)
  have HR2 := (show Hid _ from hr2)
  have HVL := (show Hid _ from hvl)
  have HVD := (show Hid _ from hvd)
  clear hr1 hr2 hg1 hg2 h hvl hvd
  have hXi : (X : Int) < 288 := by omega
  have hYi : (Y : Int) < 32 := by omega
  go_enter Tryz.func55, Tryz.ntmps55
  go_wp2_with (go_at_call 117; refine (HS1.out _).mono ?_; rintro e w1 ⟨rfl, hb1⟩; have st1 := (show Step g o o w w1 from Step.of_below hb1); have hw1 := HH.out.below hb1; clear hb1; have c1 := hw1.c2; rw [HVL.out] at c1)
  have hr1 := HR1.out o w1 (HTL.out.step st1)
  refine region_mid 10 _ _ rfl rfl (by kernel_rfl) (by kernel_rfl) ?_
  simp only [List.take_succ_cons, List.take_zero]
  still_step
  still_step
  still_step
  still_step
  still_step
  still_step
  still_step
  still_step
  still_step
  refine wpStill_step (fun K hK => ?_)
  refine still_load_mid 124 (.tmp 17) rfl bl (X * 2) rfl _ _ hr1 Tryz.underlying124 rfl sizeWord (hK _ ?_)
  clear hK K
  repeat still_step
  refine wpStill_nil (fun K hK => ?_)
  go_simp
  refine (wword_any p.1 p.2 hwl.1 hwl.2 _ hw1.drew (by omega)).mono ?_; rintro e w2 ⟨rfl, o2, hb2, st2⟩
  refine hK _ _ ?_
  clear hK K
  repeat still_step
  refine wpStill_nil ?_
  have hL2 : (b ++ wordBits p.1 p.2).length + sl.2 < 400000 := by rw [List.length_append, wordBits_len]; omega
  have ST2 := (show Hid (Step g o o2 w w2) from st1.drew.trans st2)
  clear c1 hr1 hw1 st1 st2
  obtain ⟨B2, HB2⟩ := hid_intro (b ++ wordBits p.1 p.2)
  rw [← HB2.out] at hb2 hL2
  go_wp2_with (first
    | (go_at_call 119; refine (HP1.out _).mono ?_; rintro e w3 ⟨rfl, hb3⟩; have hw3 := hb2.below hb3; have st3 := (show Step g o2 o2 w2 w3 from Step.of_below hb3); clear hb3)
    | (go_at_call 118; refine (dwithin_any l sl l2 (by omega) (by omega) _ hw3 hL2).mono ?_; rintro e w4 ⟨rfl, o4, hb4, st4⟩)
    | (go_at_call 120; refine (HS2.out _).mono ?_; rintro e w5 ⟨rfl, hb5⟩; have hw5 := hb4.below hb5; have st5 := (show Step g o4 o4 w4 w5 from Step.of_below hb5); clear hb5; have c5 := hw5.c3; rw [HVD.out] at c5))
  have hL4 : (B2 ++ numBits (l - sl.1) sl.2).length + 5 + sd.2 < 400000 := by rw [List.length_append, numBits_len, HB2.out, List.length_append, wordBits_len]; omega
  have ST5 := (show Hid (Step g o o4 w w5) from ((ST2.out.trans st3).trans st4).trans st5)
  have hr2 := HR2.out o4 w5 (HTD.out.step ST5.out)
  clear st3 st4 st5 hw3 hb4 hb2 ST2
  refine region_mid 10 _ _ rfl rfl (by kernel_rfl) (by kernel_rfl) ?_
  simp only [List.take_succ_cons, List.take_zero]
  still_step
  still_step
  still_step
  still_step
  still_step
  still_step
  still_step
  still_step
  still_step
  refine wpStill_step (fun K hK => ?_)
  refine still_load_mid 124 (.tmp 35) rfl bd (Y * 2) rfl _ _ hr2 Tryz.underlying124 rfl sizeWord (hK _ ?_)
  clear hK K
  repeat still_step
  refine wpStill_nil (fun K hK => ?_)
  go_simp
  refine (wword_any Y 5 (by omega) (by omega) _ hw5.drew (by omega)).mono ?_; rintro e w6 ⟨rfl, o6, hb6, st6⟩
  refine hK _ _ ?_
  clear hK K
  repeat still_step
  refine wpStill_nil ?_
  have hL6 : (B2 ++ numBits (l - sl.1) sl.2 ++ wordBits Y 5).length + sd.2 < 400000 := by rw [List.length_append, wordBits_len]; omega
  clear c5 hr2 hw5
  go_wp2_with (first
    | (go_at_call 121; refine (HP2.out _).mono ?_; rintro e w7 ⟨rfl, hb7⟩; have hw7 := hb6.below hb7; have st7 := (show Step g o6 o6 w6 w7 from Step.of_below hb7); clear hb7)
    | (go_at_call 118; refine (dwithin_any k sd d2 (by omega) (by omega) _ hw7 hL6).mono ?_; rintro e w8 ⟨rfl, o8, hb8, st8⟩))
  refine bodyPost_end (results_none rfl _ _ _) rfl ⟨rfl, o8, ?_, ((ST5.out.drew.trans st6).trans st7).trans st8⟩
  rw [HB2.out] at hb8
  simpa only [List.append_assoc] using hb8
end
end Go.Proofs.YtgfbbcnnmoamnaaGreatDoor
