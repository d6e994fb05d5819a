/- The document reads a lock file. -/
import Derived.Test.YtjngbcbkapjkhaaGreatDoorLkPure
import Derived.Deep.RegionHeld2
namespace Go.Proofs.YtjngbcbkapjkhaaGreatDoor.Lk
open Go.RowKit Go.Proofs.YtjngbcbkapjkhaaGreatDoor

theorem own_strs {w : World} {B : Nat} {v : Value} {x y z : List UInt8} (h : w.ownsRow B 9 1 v 3 (scells [x, y, z])) : ∃ g cap, v = .slice (some ⟨g, 0, none⟩) 3 cap ∧ B ≤ g ∧ g < w.heap.size ∧ w.cell? ⟨g, 0, none⟩ = some (.string ⟨x.toArray⟩) ∧ w.cell? ⟨g, 1, none⟩ = some (.string ⟨y.toArray⟩) ∧ w.cell? ⟨g, 2, none⟩ = some (.string ⟨z.toArray⟩) := by
  rcases h.2 with ⟨_, h0⟩ | ⟨b, cap, cur, hv, h1, hb, h2, h3, h4, h5⟩
  · cases h0
  · have key : ∀ i, i < 3 → cur[i]? = (scells [x, y, z])[i]? := fun i hi => by
      rw [← h5, List.getElem?_take_of_lt (by omega), Array.getElem?_toList]
    exact ⟨b, cap, hv, h1, lt_of_block hb, (cell_of_row _ _ _ _ _ _ hb).trans (key 0 (by omega)), (cell_of_row _ _ _ _ _ _ hb).trans (key 1 (by omega)), (cell_of_row _ _ _ _ _ _ hb).trans (key 2 (by omega))⟩
theorem may_three {l : List M} {a : List UInt8} (h : (splitB 32 a).length ≠ 3) : mayB l (lineM a) = false := by
  cases e : okM (lineM a) with
  | true => rw [line_three e] at h; exact absurd rfl h
  | false => simp [mayB, e]
theorem three_of {l : List (List UInt8)} (h : l.length = 3) : ∃ x y z, l = [x, y, z] := by
  match l, h with
  | [x, y, z], _ => exact ⟨x, y, z, rfl⟩
theorem fit_line {a : List UInt8} (h : a.length ≤ 1048576) : (lineM a).n.length ≤ 1048576 ∧ (lineM a).v.length ≤ 1048576 ∧ (lineM a).d.length ≤ 1048576 := by
  have h1 : (cutB 32 a).1.length ≤ a.length := cut_head_le a
  have h2 : (cutB 32 a).2.1.length ≤ a.length := cut_rest_le a
  have h3 : (cutB 32 (cutB 32 a).2.1).1.length ≤ (cutB 32 a).2.1.length := cut_head_le _
  have h4 : (cutB 32 (cutB 32 a).2.1).2.1.length ≤ (cutB 32 a).2.1.length := cut_rest_le _
  exact ⟨by show (cutB 32 a).1.length ≤ _; omega, by show (cutB 32 (cutB 32 a).2.1).1.length ≤ _; omega, by show (cutB 32 (cutB 32 a).2.1).2.1.length ≤ _; omega⟩
theorem Fit.snoc {l : List M} {m : M} (h : Fit l) (hm : m.n.length ≤ 1048576 ∧ m.v.length ≤ 1048576 ∧ m.d.length ≤ 1048576) : Fit (l ++ [m]) := fun x hx => by
  rcases List.mem_append.1 hx with h1 | h1
  · exact h x h1
  · have : x = m := by simpa using h1
    subst this; exact hm
theorem keep_cell {w w' : World} {o : Obj} {row : Option Nat} {g : Nat} (h : ((w.alloc o).drew).grownBy w' row) (hg : g < w.heap.size) (hr : row ≠ some g) (j : Nat) : w'.cell? ⟨g, j, none⟩ = w.cell? ⟨g, j, none⟩ :=
  World.cell?_of_block (w := w) ((h.block g (by simp; omega) (fun e => hr e.symm)).trans (Below.heap_alloc w o g hg))
set_option maxRecDepth 8000 in
set_option maxHeartbeats 1000000 in
theorem rReadLock_any (s : ByteArray) (hs : s.size ≤ 1048576) (w : World) : Calls Tryz.prog 37 #[.string s] w fun r w' => ∃ v, r = .returned (.tuple #[v, .int .i64 ((readL s.data.toList []).1 : Int)]) ∧ w'.ownsRow w.heap.size 25 3 v (readL s.data.toList []).2.length (mcells (readL s.data.toList []).2) ∧ Below w.heap.size w w' := by
  obtain ⟨R, HR⟩ := hid_intro (readL s.data.toList [])
  rw [← HR.out]
  obtain ⟨i0, hi0, hz0, hz1, hz2⟩ := info_parts infoLocked
  go_enter Tryz.func37, Tryz.ntmps37
  go_wp2
  go_loopw [0, 4] (fun vs vo wr => ∃ (sl : List UInt8) (l : List M), vs = .string ⟨sl.toArray⟩ ∧ Hid (sl.length ≤ s.size) ∧ Hid (AllOk l) ∧ Hid (Fit l) ∧ Hid (R = readL sl l) ∧ Hid (wr.ownsRow w.heap.size 25 3 vo l.length (mcells l)) ∧ Below w.heap.size w wr) (fun vs _ _ => match vs with | .string b => b.size | _ => 0)
  case atStart => exact ⟨s.data.toList, [], rfl, Nat.le_of_eq (len_data s), AllOk.nil, fun m hm => by simp at hm, HR.out, World.ownsRow_nil _ _ _ _, Below.refl ..⟩
  case round =>
    obtain ⟨sl, l, rfl, HS, HA, HFT, HL, HO, hb⟩ := hrel
    have hbs := hb.size
    have h10 := HA.out.le
    by_cases h0 : sl = []
    · subst h0
      go_wp2
      go_ret2
      have e := HL.out
      rw [readL_end] at e
      subst e
      exact ⟨_, rfl, HO.out, hb⟩
    · have hne := str_ne h0
      have hsl := HS.out
      have HC := (show Hid _ from rline_any ⟨sl.toArray⟩ (by rw [size_of]; omega))
      rw [show (⟨sl.toArray⟩ : ByteArray).data.toList = sl by simp] at HC
      have hla : (cutB 10 sl).1.length ≤ 1048576 := by have := cut_head_le (c := 10) sl; omega
      have HF3 := (show Hid _ from fit_line hla)
      have HD := (show Hid _ from rCut_any ⟨(cutB 10 sl).1.toArray⟩ (by rw [size_of]; exact hla) 32)
      rw [show (⟨(cutB 10 sl).1.toArray⟩ : ByteArray).data.toList = (cutB 10 sl).1 by simp] at HD
      have HB2 : Hid ((cutB 10 sl).2.1.length ≤ s.size) := Nat.le_trans (cut_rest_le sl) hsl
      clear hsl hla
      obtain ⟨n, HN⟩ := hid_intro l.length
      rw [← HN.out] at h10 HO
      have h32 : (((32 : UInt8).toNat : Int)) = 32 := rfl
      rw [h32] at HD
      clear h32
      cases hf : (cutB 10 sl).2.2 with
      | false =>
        obtain ⟨ao, cap, rfl⟩ := own_shape HO.out
        have HE := (show Hid _ from readL_miss (l := l) h0 hf)
        rw [hf] at HC
        clear hf
        obtain ⟨a, HAA⟩ := hid_intro (cutB 10 sl).1
        obtain ⟨b, HBB⟩ := hid_intro (cutB 10 sl).2.1
        rw [← HAA.out, ← HBB.out] at HC
        rw [← HAA.out] at HD
        go_wp2_with (first
          | (go_at_call 78; refine (HC.out _).mono ?_; clear HC; rintro e w2 ⟨rfl, n1, hw2⟩; rw [hw2]; clear hw2)
          | (go_at_call 79; refine (HD.out _).mono ?_; clear HD; rintro e w3 ⟨v3, rfl, ho3, hb3⟩; have HB3 := (show Hid _ from hb3); clear hb3 ho3))
        go_ret2
        have hb3 : Below w.heap.size w w3 := hb.trans ((below_drewN (Below.refl _ wr) n1).trans (HB3.out.mono hbs))
        have eR := HL.out.trans HE.out
        refine ⟨_, ?_, by rw [eR]; exact World.ownsRow_nil _ _ _ _, hb3⟩
        rw [eR, ← HN.out]
        rfl
      | true =>
        by_cases h3 : (splitB 32 (cutB 10 sl).1).length = 3
        · obtain ⟨x, y, z, hxyz⟩ := three_of h3
          have hlm := three_line hxyz
          have HL2 : Hid (n + 1 = (l ++ [lineM (cutB 10 sl).1]).length) := by show _ = _; rw [HN.out]; simp
          have HC2 := (show Hid _ from mcells_snoc l (lineM (cutB 10 sl).1))
          have HFT2 : Hid (Fit (l ++ [lineM (cutB 10 sl).1])) := HFT.out.snoc HF3.out
          rw [hxyz] at HD
          rw [hlm] at HL2 HC2 HFT2
          have HLM := (show Hid _ from hlm)
          have HF := (show Hid _ from hf)
          rw [hf] at HC
          clear hf h3 hxyz hlm
          have HDEC := (show Hid _ from cut_rest_lt HF.out)
          obtain ⟨a, HAA⟩ := hid_intro (cutB 10 sl).1
          obtain ⟨b, HBB⟩ := hid_intro (cutB 10 sl).2.1
          rw [← HAA.out, ← HBB.out] at HC
          rw [← HAA.out] at HD
          rw [← HBB.out] at HB2 HDEC
          obtain ⟨E, HEE⟩ := hid_intro (mcells l)
          rw [← HEE.out] at HO HC2
          go_wp2_with (first
            | (go_at_call 78; refine (HC.out _).mono ?_; clear HC; rintro e w2 ⟨rfl, n1, hw2⟩; rw [hw2]; clear hw2)
            | (go_at_call 79; refine (HD.out _).mono ?_; clear HD; rintro e w3 ⟨v3, rfl, ho3, hb3⟩; have HB3 := (show Hid _ from hb3); obtain ⟨gp, cap3, rfl, hgB, hgl, c0, c1, c2⟩ := own_strs ho3; clear hb3 ho3))
          have hw3 : Below wr.heap.size wr w3 := (below_drewN (Below.refl _ wr) n1).trans HB3.out
          have hw3s := hw3.size
          have hb3 : Below w.heap.size w w3 := hb.trans (hw3.mono hbs)
          have hown3 := own_below HO.out hw3
          have hne2 : u4.ownBlock ≠ some gp := fun e => by have := (HO.out.lt gp e).2; simp at hgB; omega
          go_region_held2 (fun w' => w'.cell? ⟨gp, 0, none⟩ = some (.string ⟨x.toArray⟩) ∧ w'.cell? ⟨gp, 1, none⟩ = some (.string ⟨y.toArray⟩) ∧ w'.cell? ⟨gp, 2, none⟩ = some (.string ⟨z.toArray⟩)) (go_keep) ((refine step_append_lies (P := Tryz.prog) _ ?_ (.tmp 30) (.tmp 41) 22 ?_ w.heap.size 25 i0 (.agg #[.string ⟨#[]⟩, .string ⟨#[]⟩, .string ⟨#[]⟩]) 3 48 ?_ ?_ ?_ ?_ ?_ ?_ ?_ u4 n E ?_ ?_ ⟨w3.heap.size, 0, none⟩ 1 1 [.string ⟨x.toArray⟩, .string ⟨y.toArray⟩, .string ⟨z.toArray⟩] ?_ ?_ ?_ ?_ ?_ ?_ ?_ ?_ (w3.heap.size + 1) ?_ ?_; rfl; rfl; exact Tryz.underlying22; exact hi0; exact hz0; exact hz1; exact hz2; rfl; decide; rfl; exact (hown3.alloc _).drew; rfl; rfl; exact cell_three_add w3 _ _ _ _; (simp [Value.oneCell']); decide; (unfold maxLen; omega); omega; (simp; omega); simp; intro g2 cap2 w5 hown5 hg5 _ _; have d0 := (keep_cell hg5 hgl (hne2) 0).trans c0; have d1 := (keep_cell hg5 hgl (hne2) 1).trans c1; have d2 := (keep_cell hg5 hgl (hne2) 2).trans c2))
          have HB5 : Hid (Below w.heap.size w w5) := grown_below (hb3.alloc hb3.size _).drew (hown3.alloc _).drew (Nat.le_refl _) (by simp; omega) hg5
          have HO5 : Hid (w5.ownsRow w.heap.size 25 3 (.slice (some ⟨g2, 0, none⟩) (l ++ [M.mk x y z]).length cap2) (l ++ [M.mk x y z]).length (mcells (l ++ [M.mk x y z]))) := by rw [← HL2.out, HC2.out]; exact hown5
          have HLK := rLocks_any (l ++ [M.mk x y z]) (by rw [← HL2.out]; omega) HFT2.out (some ⟨g2, 0, none⟩) cap2 w5 (Row.of_own HO5.out).lies
          rw [← HL2.out] at HLK
          clear hg5 hown5 hown3 hne2 d0 d1 d2 c0 c1 c2 hgB hgl HO hw3 hw3s hb3
          rename_i hh1 hh2 hh3
          clear hh1 hh2 hh3
          cases hm : mayB l (lineM (cutB 10 sl).1) with
          | true =>
            have HE := (show Hid _ from readL_go (l := l) h0 HF.out hm)
            rw [HLM.out] at hm
            have HA2 : Hid (AllOk (l ++ [M.mk x y z])) := HA.out.snoc hm
            have hfb := firstBad_none HA2.out
            rw [hfb] at HLK
            rw [HLM.out, ← HBB.out] at HE
            clear hfb hm
            go_wp2_with (go_at_call 43; refine HLK.mono ?_; clear HLK; rintro e w6 ⟨rfl, q6, hw6⟩; rw [hw6]; clear hw6)
            go_roundw
            case rel =>
              refine ⟨b, l ++ [M.mk x y z], rfl, HB2, HA2, HFT2, HL.out.trans HE.out, ?_, below_drewN HB5.out _⟩
              have h := HO5.out
              rw [← HL2.out] at h ⊢
              exact h
            case measure =>
              have := HDEC.out
              simpa [ByteArray.size] using this
          | false =>
            have HE := (show Hid _ from readL_bad (l := l) h0 hm)
            rw [HLM.out] at hm
            have hfb := HA.out.bad hm
            rw [hfb, ← HN.out] at HLK
            clear hfb hm
            go_wp2_with (go_at_call 43; refine HLK.mono ?_; clear HLK; rintro e w6 ⟨rfl, q6, hw6⟩; rw [hw6]; clear hw6)
            go_ret2
            have eR := HL.out.trans HE.out
            refine ⟨_, ?_, by rw [eR]; exact World.ownsRow_nil _ _ _ _, below_drewN HB5.out _⟩
            rw [eR, ← HN.out]
            rfl
        · obtain ⟨ao, cap, rfl⟩ := own_shape HO.out
          have HE := (show Hid _ from readL_bad (l := l) h0 (may_three h3))
          rw [hf] at HC
          clear hf
          obtain ⟨a, HAA⟩ := hid_intro (cutB 10 sl).1
          obtain ⟨b, HBB⟩ := hid_intro (cutB 10 sl).2.1
          rw [← HAA.out, ← HBB.out] at HC
          rw [← HAA.out] at HD h3
          obtain ⟨k, HK⟩ := hid_intro (splitB 32 a).length
          rw [← HK.out] at HD h3
          have hk3 : ((k : Int) == 3) = false := beq_eq_false_iff_ne.2 (by omega)
          go_wp2_with (first
            | (go_at_call 78; refine (HC.out _).mono ?_; clear HC; rintro e w2 ⟨rfl, n1, hw2⟩; rw [hw2]; clear hw2)
            | (go_at_call 79; refine (HD.out _).mono ?_; clear HD; rintro e w3 ⟨v3, rfl, ho3, hb3⟩; have HB3 := (show Hid _ from hb3); obtain ⟨ao3, cap3, rfl⟩ := own_shape ho3; clear hb3 ho3))
          go_ret2
          have hb3 : Below w.heap.size w w3 := hb.trans ((below_drewN (Below.refl _ wr) n1).trans (HB3.out.mono hbs))
          have eR := HL.out.trans HE.out
          refine ⟨_, ?_, by rw [eR]; exact World.ownsRow_nil _ _ _ _, hb3⟩
          rw [eR, ← HN.out]
          rfl
end Go.Proofs.YtjngbcbkapjkhaaGreatDoor.Lk
