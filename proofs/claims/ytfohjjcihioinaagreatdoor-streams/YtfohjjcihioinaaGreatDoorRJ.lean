/- The document's fixed codes. -/
import Derived.Test.YtfohjjcihioinaaGreatDoorRI
import Derived.Test.YtfohjjcihioinaaGreatDoorPR
namespace Go.Proofs.YtfohjjcihioinaaGreatDoor
open Go.RowKit

theorem entCells_get : ∀ (l : List Ent) (j : Nat) (en : Ent), l[j]? = some en → (entCells l)[2 * j]? = some (.int .i64 (en.sym : Int)) ∧ (entCells l)[2 * j + 1]? = some (.string ⟨(digs en.val en.len).toArray⟩)
  | [], j, en, h => by simp at h
  | e :: l, 0, en, h => by
    have : e = en := by simpa using h
    subst this
    simp [entCells]
  | e :: l, j + 1, en, h => by
    have ih := entCells_get l j en (by simpa using h)
    have e2 : entCells (e :: l) = .int .i64 (e.sym : Int) :: .string ⟨(digs e.val e.len).toArray⟩ :: entCells l := by simp [entCells]
    rw [e2, show 2 * (j + 1) = 2 * j + 1 + 1 by omega, List.getElem?_cons_succ, List.getElem?_cons_succ, show 2 * j + 1 + 1 + 1 = 2 * j + 1 + 1 + 1 from rfl, List.getElem?_cons_succ, List.getElem?_cons_succ]
    exact ih
/-- a row of codes that was made behind the reading -/
theorem CTab.of_own {g base : Nat} {o v : Value} {l : List Ent} {w : World} (h : w.ownsRow base 217 2 v l.length (entCells l)) (hg : g < base) (ho : ∀ b, o.ownBlock = some b → b < base) : CTab g v l o w := by
  rcases h.2 with ⟨hv, h0⟩ | ⟨b, cap, cur, hv, h1, hb, h2, h3, h4, h5⟩
  · refine ⟨none, 0, by rw [hv, h0], fun j en hj => ?_⟩
    have : l = [] := List.length_eq_zero_iff.1 h0
    subst this
    simp at hj
  · refine ⟨_, cap, hv, fun j en hj => ?_⟩
    have hjl := (List.getElem?_eq_some_iff.1 hj).1
    obtain ⟨c1, c2⟩ := entCells_get l j en hj
    have key : ∀ i, i < l.length * 2 → cur[i]? = (entCells l)[i]? := fun i hi => by
      rw [← h5, List.getElem?_take_of_lt hi, Array.getElem?_toList]
    refine ⟨b, rfl, by omega, fun e => by have := ho b e; omega, lt_of_block hb, ?_, ?_⟩
    · rw [cell_of_row _ _ _ _ _ _ hb, key _ (by omega)]; exact c1
    · rw [cell_of_row _ _ _ _ _ _ hb, key _ (by omega)]; exact c2
theorem CTab.keep {g : Nat} {o v : Value} {l : List Ent} {w w' : World} (t : CTab g v l o w) (hb : Below w.heap.size w w') : CTab g v l o w' := t.step (Step.of_below hb)
/-- numbers of a row of one's own -/
theorem own_ints {w : World} {base : Nat} {v : Value} {l : List Nat} (h : w.ownsRow base 3 1 v l.length (ivals l)) (hl : 0 < l.length) : ∃ b cap, v = .slice (some ⟨b, 0, none⟩) l.length cap ∧ IntsAt w b 0 l ∧ base ≤ b := by
  obtain ⟨b, cap, rfl, _, _⟩ := int_cell h 0 hl
  exact ⟨b, cap, rfl, IntsAt.of_own h hl 0 0 l (fun j hj => by simpa using hj), (h.lt b rfl).1⟩
theorem _root_.Go.World.ownsRow.weaken2 {w : World} {B B' n z : Nat} {v : Value} {xs : List Value} {t : TypeId} (h : w.ownsRow B t z v n xs) (hB : B' ≤ B) : w.ownsRow B' t z v n xs := by
  refine ⟨h.1, ?_⟩
  rcases h.2 with hn | ⟨g, cap, cur, rfl, h1, rest⟩
  · exact .inl hn
  · exact .inr ⟨g, cap, cur, rfl, Nat.le_trans hB h1, rest⟩
set_option maxHeartbeats 1000000 in
set_option maxRecDepth 8000 in
theorem rfixed_any (w : World) :
    Calls Tryz.prog 54 #[] w fun r w' => ∃ va vb, r = .returned (.tuple #[va, vb]) ∧ w'.ownsRow w.heap.size 217 2 va (ents fixedL).length (entCells (ents fixedL)) ∧ w'.ownsRow w.heap.size 217 2 vb (ents fixedD).length (entCells (ents fixedD)) ∧ Below w.heap.size w w' := by
  have HC1 := (show Hid _ from rcodes_any fixedL (by rw [fixedL_len]; omega) fixedL_le)
  have HC2 := (show Hid _ from rcodes_any fixedD (by rw [fixedD_len]; omega) fixedD_le)
  rw [fixedL_len] at HC1
  rw [fixedD_len] at HC2
  have hgl := fixedL_get
  have hll := fixedL_len
  have hdd : fixedD = List.replicate 32 5 := rfl
  obtain ⟨FL, HFL⟩ := hid_intro fixedL
  obtain ⟨FD, HFD⟩ := hid_intro fixedD
  rw [← HFL.out] at HC1 hgl hll ⊢
  rw [← HFD.out] at HC2 hdd ⊢
  have HDD := (show Hid _ from hdd)
  have HGL := (show Hid _ from hgl)
  have HLL := (show Hid _ from hll)
  clear hgl hll hdd
  obtain ⟨i0, hi0, hz0, hz1, hz2⟩ := info_parts infoInt
  go_enter Tryz.func54, Tryz.ntmps54
  go_wp2
  go_loopw [2, 4] (fun vl vi wr => ∃ i : Nat, i ≤ 288 ∧ vi = .int .i64 i ∧ Hid (wr.ownsRow w.heap.size 3 1 vl i (ivals (FL.take i))) ∧ Below w.heap.size w wr) (fun _ vi _ => 288 - (intOf vi).toNat)
  case atStart => exact ⟨0, by omega, rfl, World.ownsRow_nil _ _ _ _, Below.refl ..⟩
  case round =>
    obtain ⟨i, hi, rfl, HO, hb⟩ := hrel
    have hbs := hb.size
    by_cases hlt : i < 288
    · have HT := (show Hid _ from take_next FL i (by rw [HLL.out]; exact hlt))
      have hg := HGL.out i hlt
      obtain ⟨n, HN⟩ := hid_intro (FL.getD i 0)
      rw [← HN.out] at HT hg
      obtain ⟨E, HE⟩ := hid_intro (ivals (FL.take i))
      rw [← HE.out] at HO
      have HT2 : Hid (ivals (FL.take (i + 1)) = E ++ [.int .i64 (n : Int)]) := by show _ = _; rw [HT.out, ivals_snoc, HE.out]
      clear HT
      have hcase : (i ≤ 143 ∧ n = 8) ∨ (144 ≤ i ∧ i ≤ 255 ∧ n = 9) ∨ (256 ≤ i ∧ i ≤ 279 ∧ n = 7) ∨ (280 ≤ i ∧ n = 8) := by
        split at hg
        · exact .inl ⟨by omega, hg⟩
        · split at hg
          · exact .inr (.inl ⟨by omega, by omega, hg⟩)
          · split at hg
            · exact .inr (.inr (.inl ⟨by omega, by omega, hg⟩))
            · exact .inr (.inr (.inr ⟨by omega, hg⟩))
      clear hg
      rcases hcase with ⟨h1, rfl⟩ | ⟨h1, h2, rfl⟩ | ⟨h1, h2, rfl⟩ | ⟨h1, rfl⟩
      all_goals
        go_wp2_with (at_builtin; refine wpList_append_lies _ rfl _ _ 84 rfl w.heap.size 3 i0 (.int .i64 0) 1 8 Tryz.underlying84 hi0 hz0 hz1 hz2 rfl (by decide) _ i E rfl (World.ownsRow.alloc HO.out _) ⟨_, 0, none⟩ 1 1 [.int .i64 _] rfl rfl (cell_one_new _ _ _) (by simp [Value.oneCell']) (by decide) (by unfold maxLen; omega) (by omega) (by simp; omega) _ rfl ?_; intro g2 cap2 w5 hown5 hg5 hat _; have HB5 := (show Hid _ from grown_below (hb.alloc (hb.size) _) (World.ownsRow.alloc HO.out _) (Nat.le_refl _) (by simp; omega) hg5); have HO5 := (show Hid _ from hown5); clear hown5 hg5 hat)
        go_roundw
        case rel => exact ⟨i + 1, by omega, by go_num, by rw [HT2.out]; exact HO5, HB5.out⟩
        case measure => simp [intOf]; omega
    · obtain rfl : i = 288 := by omega
      rw [show ((288 : Nat) : Int) = 288 from rfl]
      rw [List.take_of_length_le (by rw [HLL.out]; omega)] at HO
      go_wp2
      go_loopw [3, 6] (fun vd vi wq => ∃ i : Nat, i ≤ 32 ∧ vi = .int .i64 i ∧ Hid (wq.ownsRow wr.heap.size 3 1 vd i (ivals (List.replicate i 5))) ∧ Below wr.heap.size wr wq) (fun _ vi _ => 32 - (intOf vi).toNat)
      case atStart => exact ⟨0, by omega, rfl, World.ownsRow_nil _ _ _ _, Below.refl ..⟩
      case round =>
        obtain ⟨i, hi, rfl, HO2, hb2⟩ := hrel
        have hbs2 := hb2.size
        by_cases hlt2 : i < 32
        · obtain ⟨E, HE⟩ := hid_intro (ivals (List.replicate i 5))
          rw [← HE.out] at HO2
          have HT2 : Hid (ivals (List.replicate (i + 1) 5) = E ++ [.int .i64 5]) := by show _ = _; rw [List.replicate_succ', ivals_snoc, HE.out]; rfl
          go_wp2_with (at_builtin; refine wpList_append_lies _ rfl _ _ 84 rfl _ 3 i0 (.int .i64 0) 1 8 Tryz.underlying84 hi0 hz0 hz1 hz2 rfl (by decide) _ i E rfl (World.ownsRow.alloc HO2.out _) ⟨_, 0, none⟩ 1 1 [.int .i64 _] rfl rfl (cell_one_new _ _ _) (by simp [Value.oneCell']) (by decide) (by unfold maxLen; omega) (by omega) (by simp; omega) _ rfl ?_; intro g2 cap2 w5 hown5 hg5 hat _; have HB5 := (show Hid _ from grown_below (hb2.alloc (hb2.size) _) (World.ownsRow.alloc HO2.out _) (Nat.le_refl _) (by simp; omega) hg5); have HO5 := (show Hid _ from hown5); clear hown5 hg5 hat)
          go_roundw
          case rel => exact ⟨i + 1, by omega, by go_num, by rw [HT2.out]; exact HO5, HB5.out⟩
          case measure => simp [intOf]; omega
        · obtain rfl : i = 32 := by omega
          have hO1 := own_below HO.out hb2
          have hO2 := HO2.out
          rw [← HDD.out] at hO2
          have hl2 : FD.length = 32 := by rw [HDD.out]; simp
          rw [← HLL.out] at hO1
          rw [← hl2] at hO2
          obtain ⟨b1, cap1, e1, hI1, hb1⟩ := own_ints hO1 (by rw [HLL.out]; omega)
          obtain ⟨b2, cap2, e2, hI2, hb3⟩ := own_ints hO2 (by rw [hl2]; omega)
          rw [HLL.out] at e1
          rw [hl2] at e2
          have hB := hb.trans (hb2.mono hbs)
          have HI2 : Hid (IntsAt _ b2 0 FD) := hI2
          have HBB := (show Hid _ from hB)
          clear hO1 hO2 hl2 HO HO2 hB hb hb2 hb1 hb3
          rw [e1, e2]
          clear e1 e2
          go_wp2_with (first
            | (go_at_call 57; refine (HC1.out b1 0 cap1 _ hI1).mono ?_; rintro r w3 ⟨va, rfl, ho3, hb3⟩; clear hI1; have z3 := hb3.size; have HI3 := (show Hid (IntsAt w3 b2 0 FD) from IntsAt.keep HI2.out hb3); have HB3 := (show Hid _ from hb3); have HO3 := (show Hid (w3.ownsRow _ _ _ _ _ _) from ho3); clear hb3 ho3 HI2)
            | (go_at_call 57; refine (HC2.out b2 0 cap2 _ HI3.out).mono ?_; rintro r w4 ⟨vb, rfl, ho4, hb4⟩; have z4 := hb4.size; have HB4 := (show Hid _ from hb4); have HO4 := (show Hid (w4.ownsRow _ _ _ _ _ _) from ho4); clear hb4 ho4))
          go_ret2
          have z0 := HBB.out.size
          exact ⟨va, vb, rfl, World.ownsRow.weaken2 (own_below HO3.out HB4.out) z0, World.ownsRow.weaken2 HO4.out (by omega), HBB.out.trans ((HB3.out.trans (HB4.out.mono z3)).mono z0)⟩
end Go.Proofs.YtfohjjcihioinaaGreatDoor
