/- A directory's nodes are gathered: the program's. -/
import Derived.Test.YtgfbbcnnmoamnaaGreatDoorTrSort
import Derived.Deep.RegionHeld3
namespace Go.Proofs.YtgfbbcnnmoamnaaGreatDoor.Tr
open Go.RowKit Go.Proofs.YtgfbbcnnmoamnaaGreatDoor Go.Proofs.YtgfbbcnnmoamnaaGreatDoor.Lk

theorem infoNode : (Tryz.prog.info? 106).map (fun i => (i.zero, i.size, i.bytes)) = some (some .nilIface, 1, 16) := by kernel_rfl
theorem sizeTree : (Tryz.prog.info? 37).map (·.size) = some 1 := by kernel_rfl
/-- the reading of the nodes so far -/
def ldT : Op := Op.load 35 (Operand.tmp 39)
/-- what the gathering answers -/
def BelowOk (l : List E) (ao : Option Addr) (cap d : Nat) (p : List UInt8) (w : World) : Prop :=
  Calls Tryz.prog 17 #[.slice ao l.length cap, .string ⟨p.toArray⟩] w fun r w' => ∃ s k c m, r = .returned (.agg #[.slice s k c]) ∧ TreeAt w' (fun b => w.heap.size ≤ b) (d + 1) (.slice s k c) (aheadP p) m ∧ FP l (d + 1) p m ∧ Below w.heap.size w w'
set_option maxRecDepth 8000 in
set_option maxHeartbeats 1000000 in
theorem below_step (l : List E) (hT : TreeP l) (hft : FitE l) (ao : Option Addr) (cap d : Nat) (p : List UInt8) (w : World) (hlen : (nm p).length + d = 6) (hat : LiesE w ao l)
    (hrec : ∀ d' q w', d = d' + 1 → (nm q).length + d' = 6 → LiesE w' ao l → BelowOk l ao cap d' q w') : BelowOk l ao cap d p w := by
  unfold BelowOk
  have hl := hT.len
  have HAT := toHid hat
  have HFT := toHid hft
  have HT := toHid hT
  have HREC := toHid hrec
  have HLEN := toHid hlen
  clear hat hft hT hrec hlen
  obtain ⟨i0, hi0, hz0, hz1, hz2⟩ := info_parts infoNode
  obtain ⟨n, HN⟩ := hid_intro l.length
  rw [← HN.out] at hl ⊢
  go_enter Tryz.func17, Tryz.ntmps17
  go_wp2
  go_loopw [12] (fun vi wr => ∃ (i : Nat) (v : Value) (ks : List (Nd × List E)), i ≤ n ∧ vi = .int .i64 i ∧ Hid (St w.heap.size l p d i wr v ks) ∧ Below w.heap.size w wr) (fun vi _ => n - (intOf vi).toNat)
  case atStart =>
    refine ⟨0, .slice none 0 0, [], by omega, rfl, ⟨?_, ?_, World.ownsRow_nil _ _ _ _, ⟨by simp, fun x hx => absurd hx List.not_mem_nil⟩, fun x hx => absurd hx List.not_mem_nil, fun x hx => absurd hx List.not_mem_nil⟩, ?_⟩
    · exact alloc_keeps (heap_alloc_new w _)
    · have := heap_alloc_new (w.alloc (.cells #[.slice none 0 0] 37 (0, 0))) (.cells #[.slice none 0 0] 37 (0, 0))
      rwa [show (w.alloc (.cells #[.slice none 0 0] 37 (0, 0))).heap.size = w.heap.size + 1 by simp] at this
    · exact ((Below.refl _ w).alloc (Nat.le_refl _) _).alloc (by simp) _
  case round =>
    obtain ⟨i, v, ks, hi, rfl, HS, hb⟩ := hrel
    have hbs := hb.size
    by_cases hlt : i < n
    · have hil : i < l.length := by rw [← HN.out]; exact hlt
      have HIL := toHid hil
      obtain ⟨g, o, rfl, c1, c2, c3⟩ := (HAT.out.below hb).at (i := i) hil
      obtain ⟨hpl, hbl⟩ := HFT.out.at (i := i) hil
      have HPATH := toHid (HT.out.path (getE_in hil))
      have HPP := toHid (path_parts HPATH.out)
      obtain ⟨e, HE⟩ := hid_intro (getE l i)
      rw [← HE.out] at c1 c2 c3 hpl hbl HPATH HPP
      have hz := size_of e.p
      have HCUT : Hid (∀ w1, Calls Tryz.prog 44 #[.string ⟨e.p.toArray⟩] w1 fun r w' => r = .returned (.tuple #[.string ⟨(parentB e.p).toArray⟩, .string ⟨(lastB e.p).toArray⟩]) ∧ ∃ n, w' = w1.drewN n) := fun w1 => tCut_any ⟨e.p.toArray⟩ (by rw [hz]; omega) w1
      have vb := row_sz HS.out.row
      have t0 : wr.cell? ⟨w.heap.size + 1, 0, none⟩ = some v := (cell_of_row wr _ 0 _ _ _ HS.out.own).trans rfl
      obtain ⟨pe, HPE⟩ := hid_intro (parentB e.p)
      obtain ⟨le, HLE⟩ := hid_intro (lastB e.p)
      rw [← HPE.out, ← HLE.out] at HCUT
      clear hil
      by_cases hpe : pe = p
      · cases hd : e.dir with
        | false =>
          rw [hd] at c2
          subst hpe
          have HL0 : Hid (w.heap.size + 1 < wr.heap.size) := lt_of_block HS.out.own
          have t1 := ((((Below.refl _ wr).alloc (Nat.le_refl _) (.cells #[.string ⟨e.p.toArray⟩, .bool false, .string ⟨e.b.toArray⟩] 47 (0, 0)))).cell (p := ⟨w.heap.size + 1, 0, none⟩) HL0.out).trans t0
          obtain ⟨k, HK⟩ := hid_intro ks.length
          obtain ⟨EE, HEE⟩ := hid_intro (ks.map fun x => x.1.val)
          have HLE0 : k ≤ 60 := by have := HS.out.len; have := HK.out; have := HN.out; omega
          have HOW : Hid (World.ownsRow ((wr.alloc (.cells #[.string ⟨e.p.toArray⟩, .bool false, .string ⟨e.b.toArray⟩] 47 (0, 0))).alloc (.cells #[.iface 103 (.agg #[.string ⟨le.toArray⟩, .string ⟨e.b.toArray⟩])] 106 (0, 0))) (w.heap.size + 2) 106 1 v k EE) := by
            rw [HK.out, HEE.out]
            exact own_below HS.out.row (((Below.refl _ wr).alloc (Nat.le_refl _) _).alloc (by simp) _)
          clear vb t0
          go_wp2_with (first
            | (go_at_call 44; refine (HCUT.out _).mono ?_; clear HCUT; rintro e1 w1 ⟨rfl, n1, hw1⟩; rw [hw1]; clear hw1)
            | (at_builtin; refine wpList_append_lies _ rfl _ _ 35 rfl (w.heap.size + 2) 106 i0 .nilIface 1 16 Tryz.underlying35 hi0 hz0 hz1 hz2 rfl (by decide) v k EE rfl (own_drewN' HOW.out _) ⟨_, 0, none⟩ 1 1 [.iface 103 (.agg #[.string ⟨le.toArray⟩, .string ⟨e.b.toArray⟩])] rfl rfl (news_one (drew_block (alloc2_new wr _ _))) (by simp [Value.oneCell']) (by decide) (by unfold maxLen; omega) (by omega) (by simp; have := HL0.out; omega) _ rfl ?_; intro g2 cap2 w5 hown5 hg5 hat5 hlt5; have HO5 := toHid hown5; have HG5 := toHid hg5; have HAT5 := toHid hat5; clear hown5 hg5 hat5 hlt5; have HW5 : Hid (w5.heap[w.heap.size + 1]? = some (.cells #[v] 37 (0, 0))) := (HG5.out.block _ (by simp; have := HL0.out; omega) (fun e => by have := row_sz HOW.out _ e.symm; omega)).trans (drew_block (alloc_keeps (alloc_keeps HS.out.own))); have s0 : w5.cell? ⟨w.heap.size + 1, 0, none⟩ = some v := (cell_of_row w5 _ 0 _ _ _ HW5.out).trans rfl; have f0 : w5.frozen? ⟨w.heap.size + 1, 0, none⟩ = false := frozen_of_row w5 _ _ _ _ HW5.out))
          go_roundw
          case rel =>
            have hk := HK.out
            have he := HEE.out
            subst hk he
            have hb2 := ((below_drewN ((Below.refl _ wr).alloc (Nat.le_refl _) (.cells #[.string ⟨e.p.toArray⟩, .bool false, .string ⟨e.b.toArray⟩] 47 (0, 0))) n1).alloc (Nat.le_trans (Nat.le_succ _) (by simp)) (.cells #[.iface 103 (.agg #[.string ⟨le.toArray⟩, .string ⟨e.b.toArray⟩])] 106 (0, 0)))
            refine ⟨i + 1, _, ks ++ [(Nd.file le e.b, [])], by omega, by go_num, (HS.out.below hb2).more HIL.out (by rw [← HE.out, ← HPE.out]) (Nd.file le e.b) [] ?_ (by rw [← HE.out]; exact HLE.out) rfl (fun h => by rw [← HE.out, hd] at h; cases h) g2 cap2 HO5.out HG5.out HAT5.out, ?_⟩
            · rw [← HE.out, HPE.out, HLE.out]
              show E.mk (aheadP (parentB e.p) ++ lastB e.p) false e.b = e
              rw [← HPP.out.2, ← hd]
            · exact (grown_below (hb.trans (hb2.mono hbs)) (own_drewN' HOW.out n1) (by omega) (Nat.le_trans hbs hb2.size) HG5.out).setCell (by show _ ≤ w.heap.size + 1; omega) _
          case measure => simp [intOf]; omega
        | true =>
          subst hpe
          rw [hd] at c2
          have HBN : Hid (e.b = []) := (show e.b = [] by
            have := HT.out.good _ (getE_in HIL.out)
            rw [← HE.out, badE, Bool.or_eq_false_iff, hd, Bool.true_and] at this
            have h2 := this.2
            rw [Bool.not_eq_false'] at h2
            exact eq_of_beq h2)
          have HL0 : Hid (w.heap.size + 1 < wr.heap.size) := lt_of_block HS.out.own
          have t1 := ((((Below.refl _ wr).alloc (Nat.le_refl _) (.cells #[.string ⟨e.p.toArray⟩, .bool true, .string ⟨e.b.toArray⟩] 47 (0, 0)))).cell (p := ⟨w.heap.size + 1, 0, none⟩) HL0.out).trans t0
          obtain ⟨k, HK⟩ := hid_intro ks.length
          obtain ⟨EE, HEE⟩ := hid_intro (ks.map fun x => x.1.val)
          have HLE0 : k ≤ 60 := by have := HS.out.len; have := HK.out; have := HN.out; omega
          have hnl := path_names HPATH.out
          obtain ⟨d', hd'⟩ : ∃ d', d = d' + 1 := by
            have h1 := HLEN.out
            have h2 := congrArg List.length HPP.out.1
            rw [← HPE.out] at h2
            simp at h2
            exact ⟨d - 1, by omega⟩
          have HR1 : Hid (∀ w1, LiesE w1 (some ⟨g, o, none⟩) l → Calls Tryz.prog 17 #[.slice (some ⟨g, o, none⟩) n cap, .string ⟨e.p.toArray⟩] w1 fun r w' => ∃ s k c m, r = .returned (.agg #[.slice s k c]) ∧ TreeAt w' (fun b => w1.heap.size ≤ b) (d' + 1) (.slice s k c) (aheadP e.p) m ∧ FP l (d' + 1) e.p m ∧ Below w1.heap.size w1 w') := fun w1 h1 => by
            have h := HREC.out d' e.p w1 hd' (by
              have h1 := HLEN.out
              have h2 := congrArg List.length HPP.out.1
              rw [← HPE.out] at h2
              simp at h2
              omega) h1
            unfold BelowOk at h
            rw [← HN.out] at h
            exact h
          clear vb t0 hnl HREC
          obtain ⟨T, HTT⟩ : ∃ T : World → World → Value → List E → Prop, Hid (T = fun w1 w' u m => TreeAt w' (fun b => w1.heap.size ≤ b) (d' + 1) u (aheadP e.p) m ∧ FP l (d' + 1) e.p m) := ⟨_, rfl⟩
          have HR2 : Hid (∀ w1, LiesE w1 (some ⟨g, o, none⟩) l → Calls Tryz.prog 17 #[.slice (some ⟨g, o, none⟩) n cap, .string ⟨e.p.toArray⟩] w1 fun r w' => ∃ s k c m, r = .returned (.agg #[.slice s k c]) ∧ Hid (T w1 w' (.slice s k c) m) ∧ Hid (Below w1.heap.size w1 w')) := fun w1 h1 => (HR1.out w1 h1).mono fun r w' ⟨s, k, c, m, h1, h2, h3, h4⟩ => ⟨s, k, c, m, h1, by rw [HTT.out]; exact ⟨h2, h3⟩, h4⟩
          clear HR1
          go_wp2_with (go_at_call 44; refine (HCUT.out _).mono ?_; clear HCUT; rintro e1 w1 ⟨rfl, n1, hw1⟩; rw [hw1]; clear hw1)
          have hne1 : ¬ (wr.heap.size = w.heap.size + 1) := by have := HL0.out; omega
          have hld : ldT = Op.load 35 (Operand.tmp 39) := rfl
          rw [show Op.load 35 (Operand.tmp 39) = ldT from rfl]
          go_region_held3 (fun w' => w'.cell? ⟨wr.heap.size, 0, none⟩ = some (.string ⟨e.p.toArray⟩)) (go_keep) (first
            | (go_at_call 17; refine (HR2.out _ (HAT.out.below (below_drewN (below_drewN (hb.alloc hbs _) n1) 1))).mono ?_; rintro r6 w6 ⟨s6, k6, c6, m6, rfl, HT6, HB6⟩; have q1 : w6.cell? ⟨w.heap.size + 1, 0, none⟩ = some v := (HB6.out.cell (p := ⟨w.heap.size + 1, 0, none⟩) (by simp; have := HL0.out; omega)).trans t1; have q2 : w6.cell? ⟨wr.heap.size, 0, none⟩ = some (.string ⟨e.p.toArray⟩) := (HB6.out.cell (p := ⟨wr.heap.size, 0, none⟩) (by simp)).trans (cell_three_new wr _ _ _ 47 0 _ rfl); have HS6 : Hid (St w.heap.size l pe d i w6 v ks) := (HS.out.below (below_drewN (below_drewN ((Below.refl _ wr).alloc (Nat.le_refl _) _) n1) 1)).below HB6.out; have HOW6 : Hid (w6.ownsRow (w.heap.size + 2) 106 1 v k EE) := (show w6.ownsRow (w.heap.size + 2) 106 1 v k EE by rw [HK.out, HEE.out]; exact HS6.out.row); have HL6 : Hid (w.heap.size + 1 < w6.heap.size) := lt_of_block HS6.out.own; have q3 := (((Below.refl _ w6).alloc (Nat.le_refl _) (.cells #[.iface 101 (.agg #[.string ⟨le.toArray⟩, .slice s6 k6 c6])] 106 (0, 0))).cell (p := ⟨w.heap.size + 1, 0, none⟩) HL6.out).trans q1)
            | (refine step_append_lies (P := Tryz.prog) _ ?_ (.tmp 40) (.tmp 48) 35 ?_ (w.heap.size + 2) 106 i0 .nilIface 1 16 ?_ ?_ ?_ ?_ ?_ ?_ ?_ v k EE ?_ ?_ ⟨w6.heap.size, 0, none⟩ 1 1 [.iface 101 (.agg #[.string ⟨le.toArray⟩, .slice s6 k6 c6])] ?_ ?_ ?_ ?_ ?_ ?_ ?_ ?_ (w6.heap.size + 1) ?_ ?_; rfl; rfl; exact Tryz.underlying35; exact hi0; exact hz0; exact hz1; exact hz2; rfl; decide; rfl; exact World.ownsRow.alloc HOW6.out _; rfl; rfl; exact news_one (heap_alloc_new w6 _); (simp [Value.oneCell']); decide; (unfold maxLen; omega); omega; (simp; have := HL6.out; omega); simp; intro g2 cap2 w5 hown5 hg5 hat5 hlt5; have HO5 := toHid hown5; have HG5 := toHid hg5; have HAT5 := toHid hat5; clear hown5 hg5 hat5 hlt5; have HW5 : Hid (w5.heap[w.heap.size + 1]? = some (.cells #[v] 37 (0, 0))) := (HG5.out.block _ (by simp; have := HL6.out; omega) (fun e => by have := row_sz HOW6.out _ e.symm; omega)).trans (alloc_keeps HS6.out.own); have s0 : w5.cell? ⟨w.heap.size + 1, 0, none⟩ = some v := (cell_of_row w5 _ 0 _ _ _ HW5.out).trans rfl; have f0 : w5.frozen? ⟨w.heap.size + 1, 0, none⟩ = false := frozen_of_row w5 _ _ _ _ HW5.out; have s1 : w5.cell? ⟨wr.heap.size, 0, none⟩ = some (.string ⟨e.p.toArray⟩) := (World.cell?_of_block (a := ⟨wr.heap.size, 0, none⟩) ((HG5.out.block wr.heap.size (by simp; have := HB6.out.size; simp at this; omega) (fun e => by have := row_sz HS.out.row _ e.symm; omega)).trans ((((Below.refl _ w6).alloc (Nat.le_refl _) _).block _ (by have := HB6.out.size; simp at this; omega))))).trans q2; have s2 : ∀ x, (w5.setCell ⟨w.heap.size + 1, 0, none⟩ x).cell? ⟨wr.heap.size, 0, none⟩ = some (.string ⟨e.p.toArray⟩) := fun x => (World.cell?_of_block (a := ⟨wr.heap.size, 0, none⟩) (Below.heap_setCell _ _ _ _ hne1)).trans s1))
          all_goals
            go_wp2
            go_roundw
            case rel =>
              have hk := HK.out
              have he := HEE.out
              have hT := HTT.out
              subst hk he hT
              obtain ⟨hT6, hF6⟩ := HT6.out
              have hsz := HB6.out.size
              have hvb := row_sz HS.out.row
              have hll := HL0.out
              simp at hsz
              refine ⟨i + 1, _, ks ++ [(Nd.dir le s6 k6 c6, m6)], by omega, by go_num, (HS6.out.below ((Below.refl _ w6).alloc (Nat.le_refl _) _)).more HIL.out (by rw [← HE.out, ← HPE.out]) (Nd.dir le s6 k6 c6) m6 ?_ (by rw [← HE.out]; exact HLE.out) ?_ (fun h => ?_) g2 cap2 HO5.out HG5.out (by simpa using HAT5.out), ?_⟩
              · rw [← HE.out, HPE.out, HLE.out]
                show E.mk (aheadP (parentB e.p) ++ lastB e.p) true [] = e
                rw [← HPP.out.2, ← hd, ← HBN.out]
              · show TreeAt _ _ d (.slice s6 k6 c6) (aheadP pe ++ le ++ [47]) m6
                rw [HPE.out, HLE.out, ← HPP.out.2, ← aheadP_path (path_ne HPATH.out), hd']
                refine hT6.keep (by simp) fun b hlt hb => ⟨((Below.refl _ w6).alloc (Nat.le_refl _) _).block b hlt, ?_, fun e => ?_⟩
                · simp at hb; omega
                · have := hvb b e; simp at hb; omega
              · rw [← HE.out, hd']; exact hF6
              · refine (grown_below (B := w.heap.size) ((hb.trans ((below_drewN (below_drewN ((Below.refl _ wr).alloc (Nat.le_refl _) _) n1) 1).mono hbs)).trans (HB6.out.mono (by simp; omega)) |>.alloc (by omega) _) (World.ownsRow.alloc HS6.out.row _) (by omega) (by simp; omega) HG5.out).setCell (by show _ ≤ w.heap.size + 1; omega) _
            case measure => simp [intOf]; omega
      · have hne : (pe == p) = false := beq_eq_false_iff_ne.2 hpe
        go_wp2_with (go_at_call 44; refine (HCUT.out _).mono ?_; clear HCUT; rintro e1 w1 ⟨rfl, n1, hw1⟩; rw [hw1]; clear hw1)
        go_roundw
        case rel => exact ⟨i + 1, v, ks, by omega, by go_num, (HS.out.skip HIL.out (by rw [← HE.out, ← HPE.out]; exact hpe)).below (below_drewN ((Below.refl _ wr).alloc (Nat.le_refl _) _) _), below_drewN (hb.alloc hbs _) _⟩
        case measure => simp [intOf]; omega
    · obtain rfl : i = n := by omega
      have HL0 : Hid (w.heap.size + 1 < wr.heap.size) := lt_of_block HS.out.own
      have t0 : wr.cell? ⟨w.heap.size + 1, 0, none⟩ = some v := (cell_of_row wr _ 0 _ _ _ HS.out.own).trans rfl
      obtain ⟨av, cv, rfl⟩ := own_shape HS.out.row
      have HSORT := toHid (nodes_sort (ks.map (·.1)) wr (w.heap.size + 2) _ (by rw [List.length_map, List.map_map]; exact HS.out.row) (by have := HS.out.len; have := HN.out; simp; omega))
      go_wp2_with (go_at_call 45; refine HSORT.out.mono ?_; clear HSORT; rintro e1 w2 ⟨rfl, ns', hp2, hs2, hr2, hb2, hk2⟩; have HP2 := toHid hp2; have HS2 := toHid hs2; have HR2 := toHid hr2; have HB2 := toHid hb2; have HK2 := toHid hk2; clear hp2 hs2 hr2 hb2 hk2; have q0 : w2.cell? ⟨w.heap.size + 1, 0, none⟩ = some (.slice av ks.length cv) := (HB2.out.cell (p := ⟨w.heap.size + 1, 0, none⟩) (by simp)).trans t0; have r0 : w2.cell? ⟨w.heap.size, 0, none⟩ = some (.slice none 0 0) := (HB2.out.cell (p := ⟨w.heap.size, 0, none⟩) (by simp)).trans ((cell_of_row wr _ 0 _ _ _ HS.out.res).trans rfl); have rf0 : w2.frozen? ⟨w.heap.size, 0, none⟩ = false := frozen_of_row w2 _ _ _ _ ((HB2.out.block w.heap.size (by omega)).trans HS.out.res))
      have HRES : Hid (w2.heap[w.heap.size]? = some (.cells #[.slice none 0 0] 37 (0, 0))) := (HB2.out.block w.heap.size (by omega)).trans HS.out.res
      have HZ : Hid ((w2.setCell ⟨w.heap.size, 0, none⟩ (.slice av ks.length cv)).heap[w.heap.size]? = some (.cells #[.slice av ks.length cv] 37 (0, 0))) := (heap_setCell_same _ _ 0 _ _ _ HRES.out).trans rfl
      have z0 : (w2.setCell ⟨w.heap.size, 0, none⟩ (.slice av ks.length cv)).cell? ⟨w.heap.size, 0, none⟩ = some (.slice av ks.length cv) := (cell_of_row _ _ 0 _ _ _ HZ.out).trans rfl
      have hS := HS.out
      have hn := HN.out
      rw [hn] at hS
      obtain ⟨m, h1, h2⟩ := hS.done HT.out HP2.out HS2.out HR2.out HB2.out.size HK2.out
      refine bodyPost_ret_by (v := .agg #[.slice av ks.length cv]) (results_cell_row Tryz.results17 _ _ w.heap.size 37 _ (0, 0) _ rfl HZ.out Tryz.underlying37 rfl sizeTree) rfl ⟨av, ks.length, cv, m, rfl, h1.keep (by simp [World.setCell]) fun b _ hb2 => ⟨Below.heap_setCell _ _ _ _ (by show b ≠ w.heap.size; omega), by omega⟩, h2, (hb.trans (HB2.out.mono (by omega))).setCell (Nat.le_refl _) _⟩
theorem below_any (l : List E) (hT : TreeP l) (hft : FitE l) (ao : Option Addr) (cap : Nat) : ∀ (d : Nat) (p : List UInt8) (w : World), (nm p).length + d = 6 → LiesE w ao l → BelowOk l ao cap d p w := by
  intro d
  induction d with
  | zero => exact fun p w h1 h2 => below_step l hT hft ao cap 0 p w h1 h2 (fun d' _ _ h => by omega)
  | succ d ih => exact fun p w h1 h2 => below_step l hT hft ao cap (d + 1) p w h1 h2 (fun d' q w' h => by
      obtain rfl : d = d' := by omega
      exact ih q w')
end Go.Proofs.YtgfbbcnnmoamnaaGreatDoor.Tr
