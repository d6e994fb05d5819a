/- The program's row of lengths. The program's own codes of a block. -/
import Derived.Test.YtgfbbcnnmoamnaaGreatDoorPM
import Derived.Test.YtgfbbcnnmoamnaaGreatDoorSort
namespace Go.Proofs.YtgfbbcnnmoamnaaGreatDoor
open Go.RowKit

theorem ivals_len (l : List Nat) : (ivals l).length = l.length := by simp [ivals]
theorem ivals_snoc (l : List Nat) (x : Nat) : ivals (l ++ [x]) = ivals l ++ [.int .i64 (x : Int)] := by simp [ivals]
/-- the span of a repetition -/
def tspan (x : Nat) : Nat × Nat := if x = 16 then (3, 2) else if x = 17 then (3, 3) else (11, 7)
theorem tspan_small (x : Nat) : (tspan x).1 < 100 ∧ (tspan x).2 ≤ 7 := by
  unfold tspan; split
  · decide
  · split <;> decide
theorem tspan_pos (x : Nat) : 3 ≤ (tspan x).1 := by
  unfold tspan; split
  · decide
  · split <;> decide
theorem rowStep_big {c : List Nat} {s : List UInt8} {k x k2 : Nat} {row : List Nat} (hd : dec c s k = some (x, k2)) (hx : ¬ x < 16) : rowStep c s k row =
    if x = 16 ∧ row = [] then none else if has s k2 (tspan x).2 then some (if x = 16 then row.getD (row.length - 1) 0 else 0, (tspan x).1 + numAt s k2 (tspan x).2, k2 + (tspan x).2) else none := by
  simp only [rowStep, hd]
  rw [if_neg hx]
  by_cases h1 : x = 16
  · subst h1
    by_cases h2 : row = []
    · simp [h2]
    · simp [h2, tspan]
  · have hnn : ¬ (x = 16 ∧ row = []) := fun h => h1 h.1
    rw [if_neg h1, if_neg hnn]
    by_cases h3 : x = 17
    · subst h3; simp [tspan]
    · simp [h3, h1, tspan]
theorem int_cell {w : World} {base : Nat} {v : Value} {l : List Nat} {t : TypeId} (h : w.ownsRow base t 1 v l.length (ivals l)) (j : Nat) (hj : j < l.length) :
    ∃ b cap, v = .slice (some ⟨b, 0, none⟩) l.length cap ∧ l.length ≤ cap ∧ w.cell? ⟨b, j, none⟩ = some (.int .i64 ((l.getD j 0 : Nat) : Int)) := by
  rcases h.2 with ⟨_, h0⟩ | ⟨b, cap, cur, rfl, h1, hg, h2, h3, h4, h5⟩
  · omega
  · refine ⟨b, cap, rfl, h2, ?_⟩
    have e2 : cur.toList[j]? = (cur.toList.take (l.length * 1))[j]? := by rw [List.getElem?_take_of_lt (by omega)]
    rw [cell_of_row _ _ _ _ _ _ hg, ← Array.getElem?_toList, e2, h5]
    simp [ivals, hj]
/-- what comes again: the length ahead -/
theorem repeatedLength_zero (x : Nat) (v : Value) (hx : x ≠ 16) (_hx2 : x < 400) (w : World) :
    Calls Tryz.prog 322 #[.int .i64 x, v] w fun e w' => e = .returned (.tuple #[.int .i64 0, .nilIface]) ∧ w' = w := by
  have hx' : ((x : Int) != 16) = true := by simp; omega
  go_enter Tryz.func322, Tryz.ntmps322
  go_wp2
  go_ret2
  exact ⟨rfl, rfl⟩
theorem repeatedLength_none {er : Errs} {cap : Nat} {ao : Option Addr} (w : World) (hE : er.At w) :
    Calls Tryz.prog 322 #[.int .i64 16, .slice ao 0 cap] w fun e w' => e = .returned (.tuple #[.int .i64 0, errV er.ahead]) ∧ ∃ m, w' = w.drewN m := by
  have he := hE.ahead
  clear hE
  go_enter Tryz.func322, Tryz.ntmps322
  go_wp2
  go_quiet (fail)
  go_wp2
  go_ret2
  exact ⟨rfl, nq, rfl⟩
theorem repeatedLength_some {base : Nat} {v : Value} {l : List Nat} {t : TypeId} (w : World) (h : w.ownsRow base t 1 v l.length (ivals l)) (hl : 0 < l.length) (hl2 : l.length ≤ 1000) :
    Calls Tryz.prog 322 #[.int .i64 16, v] w fun e w' => e = .returned (.tuple #[.int .i64 ((l.getD (l.length - 1) 0 : Nat) : Int), .nilIface]) ∧ ∃ m, w' = w.drewN m := by
  obtain ⟨b, cap, rfl, hcap, hc⟩ := int_cell h (l.length - 1) (by omega)
  obtain ⟨x, Hx⟩ := hid_intro (l.getD (l.length - 1) 0)
  rw [← Hx.out] at hc ⊢
  obtain ⟨n, Hn⟩ := hid_intro l.length
  rw [← Hn.out] at hl hl2 hc ⊢
  clear h
  go_enter Tryz.func322, Tryz.ntmps322
  go_wp2
  go_ret2
  exact ⟨rfl, 0, rfl⟩
section
variable {er : Errs} {g : Nat} {s : ByteArray} {lim : Nat} {fx : List Value} {k : Nat} {o : Value} {out : List UInt8}
/-- the inflater stands where its own blocks stand -/
theorem Inf.same_at {w w' : World} (h : Inf er g s lim fx k o out w) (hsz : w.heap.size ≤ w'.heap.size) (hg : w'.heap[g]? = w.heap[g]?) (ho : ∀ b, o.ownBlock = some b → w'.heap[b]? = w.heap[b]?) (h15 : ∀ j, j < 24 → w'.heap[j]? = w.heap[j]?) : Inf er g s lim fx k o out w' := by
  refine ⟨h.errs.same hsz h15, h.hg, h.hs, h.hl, hg.trans h.blk, ⟨h.own.1, ?_⟩, h.hk, h.ho⟩
  rcases h.own.2 with hn | ⟨b, cap, cur, hv, h1, hgb, rest⟩
  · exact .inl hn
  · exact .inr ⟨b, cap, cur, hv, h1, (ho b (by subst hv; rfl)).trans hgb, rest⟩
/-- the row grows by one -/
theorem Inf.rowgrown {w0 w w2 w3 : World} {v : Value} {B n : Nat} {xs : List Value} (h : Inf er g s lim fx k o out w) (st : Step g o o w0 w) (hB : w0.heap.size ≤ B) (h0 : Inf er g s lim fx k o out w ∧ g < w0.heap.size ∧ (∀ b, o.ownBlock = some b → b < w0.heap.size) ∧ 24 ≤ w0.heap.size)
    (hown : w.ownsRow B 3 1 v n xs) (hb : Below w.heap.size w w2) (hg3 : w2.grownBy w3 v.ownBlock) : Inf er g s lim fx k o out w3 ∧ Step g o o w0 w3 := by
  have hlow : ∀ j, j < w0.heap.size → w3.heap[j]? = w.heap[j]? := fun j hj => by
    have hjw : j < w.heap.size := Nat.lt_of_lt_of_le hj st.size
    exact (hg3.block j (Nat.lt_of_lt_of_le hjw hb.size) (fun e => by have := (hown.lt j e.symm).1; omega)).trans (hb.block j hjw)
  have hsz := Nat.le_trans hb.size hg3.size
  refine ⟨h.same_at hsz (hlow g h0.2.1) (fun b hbb => hlow b (h0.2.2.1 b hbb)) (fun j hj => hlow j (by have := h0.2.2.2; omega)), ?_⟩
  exact ⟨(hg3.os.trans hb.os).trans st.os, (hg3.tape.trans hb.tape).trans st.tape, (hg3.output.trans hb.output).trans st.output, Nat.le_trans st.size hsz, fun j hj hg ho => (hlow j hj).trans (st.block j hj hg ho), st.moved⟩
def sliceLen : Value → Nat | .slice _ n _ => n | _ => 0
theorem _root_.Go.World.ownsRow.weaken {w : World} {B B' n : Nat} {v : Value} {xs : List Value} {t : TypeId} (h : w.ownsRow B t 1 v n xs) (hB : B' ≤ B) : w.ownsRow B' t 1 v n xs := by
  refine ⟨h.1, ?_⟩
  rcases h.2 with hn | ⟨b, cap, cur, rfl, h1, rest⟩
  · exact .inl hn
  · exact .inr ⟨b, cap, cur, rfl, Nat.le_trans hB h1, rest⟩
/-- an owned row, behind a step of the inflater that began behind it -/
theorem _root_.Go.World.ownsRow.rowstep {W0 w w2 : World} {B n : Nat} {v : Value} {xs : List Value} {t : TypeId} (hown : w.ownsRow B t 1 v n xs) (st : Step g o o w.drew w2) (_hsW : W0.heap.size ≤ w.heap.size) (hB : W0.heap.size ≤ B) (hW : g < W0.heap.size ∧ (∀ b, o.ownBlock = some b → b < W0.heap.size) ∧ 24 ≤ W0.heap.size) : w2.ownsRow B t 1 v n xs := by
  refine ⟨hown.1, ?_⟩
  rcases hown.2 with hn | ⟨b, cap, cur, rfl, h1, hg, rest⟩
  · exact .inl hn
  · have hlt := lt_of_block hg
    refine .inr ⟨b, cap, cur, rfl, h1, (st.block b hlt (by omega) (fun e => by have := hW.2.1 b e; omega)).trans hg, rest⟩
set_option maxHeartbeats 1000000 in
set_option maxRecDepth 8000 in
theorem row_any (l : List Nat) (hl50 : l.length ≤ 50) (h many : Nat) (hm : many ≤ 320) (w : World) (hi : Inf er g s lim fx k o out w) (ht : Tab g h (codeSyms l) o w) :
    Calls Tryz.prog 280 #[.pointer (some ⟨g, 0, none⟩), .agg (CA l h), .int .i64 many] w fun e w' => (∃ k' r v, rowGo l s.data.toList many 400 k [] = some (k', r) ∧ e = .returned (.tuple #[v, .nilIface]) ∧ w'.ownsRow w.heap.size 3 1 v r.length (ivals r) ∧ Inf er g s lim fx k' o out w' ∧ Step g o o w w') ∨
      (rowGo l s.data.toList many 400 k [] = none ∧ ∃ b k', er.bad b ∧ e = .returned (.tuple #[.slice none 0 0, errV b]) ∧ Inf er g s lim fx k' o out w' ∧ Step g o o w w') := by
  have hl : l.length ≤ 400 := by omega
  obtain ⟨R, HR⟩ := hid_intro (rowGo l s.data.toList many 400 k [])
  rw [← HR.out]
  have hss : s.data.toList.length = s.size := by simp
  have HC1 : Hid _ := CA_size l h
  obtain ⟨C, HC⟩ := hid_intro (CA l h)
  have hrd := fun k w hi ht x k' hd => read_some (er := er) (g := g) (s := s) (lim := lim) (fx := fx) (k := k) (o := o) (out := out) hl (h := h) (x := x) (k' := k') w hi ht hd
  have hrn := fun k w hi ht hd => read_none (er := er) (g := g) (s := s) (lim := lim) (fx := fx) (k := k) (o := o) (out := out) hl (h := h) w hi ht hd
  rw [← HC.out] at HC1 hrd hrn ⊢
  have HRD : Hid _ := hrd
  have HRN : Hid _ := hrn
  clear hrd hrn
  have st0 : Step g o o w (w.alloc (.cells C 183)) := Step.alloc (Step.refl ..) _
  have HW : Hid (g < w.heap.size ∧ (∀ b, o.ownBlock = some b → b < w.heap.size) ∧ 24 ≤ w.heap.size) := ⟨hi.lt, fun b e => (hi.own.lt b e).2, hi.errs.size⟩
  have HN : Hid (w.heap.size ≠ g ∧ o.ownBlock ≠ some w.heap.size) := ⟨by have := hi.lt; omega, fun e => by have := (hi.own.lt _ e).2; omega⟩
  obtain ⟨i0, hi0, hz0, hz1, hz2⟩ := info_parts infoInt
  go_enter Tryz.func280, Tryz.ntmps280
  have hi0' := hi.alloc (.cells C 183)
  have ht0' := ht.step st0
  have hb0 : (w.alloc (.cells C 183)).heap[w.heap.size]? = some (.cells C 183 (0, 0)) := heap_alloc_new w _
  obtain ⟨W0, HW0⟩ := hid_intro (w.alloc (.cells C 183))
  have hz0' : W0.heap.size = w.heap.size + 1 := by rw [HW0.out]; simp
  go_wp2_with (refine wpList_make_own _ rfl (.const (.int .i64 0)) (.tmp 13) 87 rfl (w.heap.size + 1) 3 i0 (.int .i64 0) 1 Tryz.underlying87 hi0 hz0 hz1 .i64 .i64 many many rfl rfl rfl ?_ ?_ ?_ ?_; (rw [hz2]; omega); (unfold maxLen; omega); simp; (intro w1 hown1 hg1))
  have hiA : Inf er g s lim fx k o out W0 := by rw [HW0.out]; exact hi0'
  have hstA : Step g o o w W0 := by rw [HW0.out]; exact st0
  have htA : Tab g h (codeSyms l) o W0 := by rw [HW0.out]; exact ht0'
  have hbA : W0.heap[w.heap.size]? = some (.cells C 183 (0, 0)) := by rw [HW0.out]; exact hb0
  rw [← HW0.out] at hg1
  have HW1 : Hid (g < W0.heap.size ∧ (∀ b, o.ownBlock = some b → b < W0.heap.size) ∧ 24 ≤ W0.heap.size) := ⟨by have := HW.out.1; omega, fun b e => by have := HW.out.2.1 b e; omega, by have := HW.out.2.2; omega⟩
  have hb1 : Below W0.heap.size W0 w1 := ⟨hg1.os, hg1.tape, hg1.output, hg1.size, fun j hj => hg1.block j hj (by simp)⟩
  have hi1 : Inf er g s lim fx k o out w1 := hiA.below hb1
  have st1 : Step g o o W0 w1 := Step.of_below hb1
  clear hi ht st0 hi0' ht0' hb0 hg1 hb1 HW0
  go_loopw [8] (fun v wr => ∃ (f k' cap : Nat) (ao : Option Addr) (r : List Nat), 400 ≤ f + r.length ∧ r.length ≤ many ∧ Hid (R = rowGo l s.data.toList many f k' r) ∧ Hid (∀ x ∈ r, x ≤ 15) ∧ v = .slice ao r.length cap ∧ wr.ownsRow (w.heap.size + 1) 3 1 (.slice ao r.length cap) r.length (ivals r) ∧ Inf er g s lim fx k' o out wr ∧ Step g o o W0 wr) (fun v _ => many - sliceLen v)
  case atStart => exact ⟨400, k, many, _, [], by simp, by simp, HR, by intro x hx; simp at hx, rfl, by simpa [ivals] using hown1, hi1, st1⟩
  case round =>
    clear hown1 hi1 st1 hiA
    obtain ⟨f, k', cap, ao, r, hf, hrm, HRf, HR15, rfl, hown, hi, st⟩ := hrel
    have hb := (st.block w.heap.size (by omega) HN.out.1 HN.out.2).trans hbA
    have ht := htA.step st
    obtain ⟨f, rfl⟩ : ∃ f', f = f' + 1 := ⟨f - 1, by omega⟩
    obtain ⟨n, Hn⟩ := hid_intro r.length
    rw [← Hn.out] at hf hrm hown ⊢
    have hsW := st.size
    by_cases hlt : n < many
    · have HRs := (show Hid _ from rowGo_step l s.data.toList many f k' r (by rw [← Hn.out]; exact hlt))
      rw [← HRf.out] at HRs
      cases hD : dec l s.data.toList k' with
      | none =>
        have HE : Hid (R = none) := by rw [HRs.out]; show _ = _; simp only [rowStep, hD]
        have HDD : Hid _ := hD
        clear hD
        go_wp2
        refine region_mid 4 _ _ rfl rfl (by kernel_rfl) (by kernel_rfl) ?_
        simp only [List.take_succ_cons, List.take_zero]
        refine wpStill_step (fun K hK => ?_)
        refine still_load_row 183 (.tmp 4) rfl w.heap.size rfl 183 C (0, 0) _ hb Tryz.underlying183 rfl (by rw [HC1.out]; exact sizeCode) (hK _ ?_)
        clear hK K
        repeat still_step
        refine wpStill_nil (fun K hK => ?_)
        go_simp
        refine (HRN.out _ _ hi.drew ht.drew HDD.out).mono ?_; rintro e w2 ⟨b, k3, hb3, rfl, hi2, st2⟩; unfold errV
        refine hK _ _ ?_
        clear hK K
        repeat still_step
        refine wpStill_nil ?_
        go_wp2
        go_ret2
        exact .inr ⟨HE.out, b, _, hb3, rfl, hi2, (hstA.trans st).drew.trans st2⟩
      | some p =>
        obtain ⟨x, k2⟩ := p
        have hx4 : x < 50 := by have := dec_lt hD; omega
        have HDD : Hid _ := hD
        by_cases hx : x < 16
        · have HE : Hid (R = rowGo l s.data.toList many f k2 (r ++ [x])) := by rw [HRs.out]; show _ = _; simp only [rowStep, hD]; rw [if_pos hx]; rfl
          clear hD
          go_wp2
          refine region_mid 4 _ _ rfl rfl (by kernel_rfl) (by kernel_rfl) ?_
          simp only [List.take_succ_cons, List.take_zero]
          refine wpStill_step (fun K hK => ?_)
          refine still_load_row 183 (.tmp 4) rfl w.heap.size rfl 183 C (0, 0) _ hb Tryz.underlying183 rfl (by rw [HC1.out]; exact sizeCode) (hK _ ?_)
          clear hK K
          repeat still_step
          refine wpStill_nil (fun K hK => ?_)
          go_simp
          refine (HRD.out _ _ hi.drew ht.drew _ _ HDD.out).mono ?_; rintro e w2 ⟨rfl, hi2, st2⟩
          refine hK _ _ ?_
          clear hK K
          repeat still_step
          refine wpStill_nil ?_
          have hst2 := st.drew.trans st2
          have hown2 := hown.rowstep st2 hsW (by omega) HW1.out
          go_wp2_with (at_builtin; refine wpList_append_lies _ rfl _ _ 87 rfl (w.heap.size + 1) 3 i0 (.int .i64 0) 1 8 Tryz.underlying87 hi0 hz0 hz1 hz2 rfl (by decide) _ n (ivals r) rfl (World.ownsRow.alloc hown2 _) ⟨w2.heap.size, 0, none⟩ 1 1 [.int .i64 (x : Int)] rfl rfl (cell_one_new _ _ _) (by simp [Value.oneCell']) (by decide) (by unfold maxLen; omega) (by omega) (by simp; have := hst2.size; omega) (w2.heap.size + 1) (by simp) ?_; intro g2 cap2 w5 hown5 hg5 hat _; have HG := (show Hid _ from Inf.rowgrown hi2 hst2 (Nat.le_of_eq hz0') ⟨hi2, HW1.out⟩ hown2 ((Below.refl _ _).alloc (Nat.le_refl _) _) hg5); have HO5 := (show Hid _ from hown5); clear hown5 hg5 hat)
          have HRN' : Hid (r.length = n) := Hn.out.symm
          go_roundw
          case rel =>
            refine ⟨f, k2, cap2, some ⟨g2, 0, none⟩, r ++ [x], ?_, ?_, HE, ?_, ?_, ?_, HG.out.1, HG.out.2⟩
            · have := HRN'.out; simp; omega
            · have := HRN'.out; simp; omega
            · intro y hy
              rcases List.mem_append.1 hy with hy | hy
              · exact HR15.out y hy
              · simp at hy; omega
            · have := HRN'.out; simp [this]
            · rw [show (r ++ [x]).length = n + 1 by have := HRN'.out; simp [this], ivals_snoc]; exact HO5.out
          case measure => simp [sliceLen]; omega
        · have HRb := (show Hid _ from rowStep_big (row := r) hD hx)
          rw [HRb.out] at HRs
          clear hD
          have hlen : r.length = n := Hn.out.symm
          by_cases hnone : x = 16 ∧ r = []
          · have HE : Hid (R = none) := by rw [HRs.out]; show _ = _; rw [if_pos hnone]
            have hn0 : n = 0 := by rw [← hlen, hnone.2]; rfl
            have hx16 : x = 16 := hnone.1
            subst hx16
            subst hn0
            go_wp2
            refine region_mid 4 _ _ rfl rfl (by kernel_rfl) (by kernel_rfl) ?_
            simp only [List.take_succ_cons, List.take_zero]
            refine wpStill_step (fun K hK => ?_)
            refine still_load_row 183 (.tmp 4) rfl w.heap.size rfl 183 C (0, 0) _ hb Tryz.underlying183 rfl (by rw [HC1.out]; exact sizeCode) (hK _ ?_)
            clear hK K
            repeat still_step
            refine wpStill_nil (fun K hK => ?_)
            go_simp
            refine (HRD.out _ _ hi.drew ht.drew _ _ HDD.out).mono ?_; rintro e w2 ⟨rfl, hi2, st2⟩
            refine hK _ _ ?_
            clear hK K
            repeat still_step
            refine wpStill_nil ?_
            go_wp2_with (go_at_call 322; refine (repeatedLength_none _ hi2.errs).mono ?_; rintro e w3 ⟨rfl, m3, hw3⟩; rw [hw3]; clear hw3; unfold errV)
            go_ret2
            exact .inr ⟨HE.out, er.ahead, _, by simp [Errs.bad], rfl, hi2.drewN _, Step.drewN ((hstA.trans st).drew.trans st2) _⟩
          · rw [if_neg hnone] at HRs
            obtain ⟨y, Hy⟩ := hid_intro (if x = 16 then r.getD (r.length - 1) 0 else 0)
            rw [← Hy.out] at HRs
            have hy15 : y ≤ 15 := by
              rw [Hy.out]; split
              · rename_i h16
                have hne : r ≠ [] := fun e => hnone ⟨h16, e⟩
                have hp : 0 < r.length := List.length_pos_iff.2 hne
                exact HR15.out _ (getD_mem (by omega))
              · omega
            have HRL : Hid (∀ w2, w2.ownsRow (w.heap.size + 1) 3 1 (.slice ao n cap) n (ivals r) → Calls Tryz.prog 322 #[.int .i64 x, .slice ao n cap] w2 fun e w' => e = .returned (.tuple #[.int .i64 (y : Int), .nilIface]) ∧ ∃ m, w' = w2.drewN m) := by
              intro w2 ho2
              by_cases h16 : x = 16
              · have hne : r ≠ [] := fun e => hnone ⟨h16, e⟩
                have hp : 0 < r.length := List.length_pos_iff.2 hne
                rw [← hlen] at ho2
                have := repeatedLength_some w2 ho2 hp (by omega)
                rw [show y = r.getD (r.length - 1) 0 by rw [Hy.out, if_pos h16], h16, ← hlen]
                exact this
              · rw [show y = 0 by rw [Hy.out, if_neg h16]]
                refine (repeatedLength_zero x _ h16 (by omega) w2).mono ?_
                rintro e w' ⟨h1, h2⟩
                exact ⟨h1, 0, h2⟩
            have hts := tspan_small x
            have HTS : Hid (∀ w2 : World, Calls Tryz.prog 323 #[.int .i64 x] w2 fun e w' => e = .returned (spanV (tspan x)) ∧ Below w2.heap.size w2 w') := fun w2 => timesSpan_any x (by omega) w2 (by omega)
            by_cases hh : has s.data.toList k2 (tspan x).2
            · have HH : Hid (k2 + (tspan x).2 ≤ 8 * s.size) := by show k2 + (tspan x).2 ≤ 8 * s.size; unfold has at hh; omega
              rw [if_pos hh] at HRs
              clear hh
              obtain ⟨N, HNN⟩ := hid_intro ((tspan x).1 + numAt s.data.toList k2 (tspan x).2)
              have hNl : N ≤ 300 := by
                have a := numAt_lt s.data.toList k2 (tspan x).2
                have b : (2:Nat) ^ (tspan x).2 ≤ 2 ^ 7 := Nat.pow_le_pow_right (by omega) hts.2
                have := HNN.out; omega
              have HRn : Hid (R = rowGo l s.data.toList many f (k2 + (tspan x).2) (r ++ List.replicate N y)) := by rw [HRs.out, HNN.out]; rfl
              obtain ⟨K3, HK3⟩ := hid_intro (k2 + (tspan x).2)
              rw [← HK3.out] at HRn
              by_cases hover : n + N > many
              · have HE : Hid (R = none) := by
                  rw [HRn.out]; show _ = _
                  obtain ⟨f', rfl⟩ : ∃ f', f = f' + 1 := ⟨f - 1, by omega⟩
                  exact rowGo_many _ _ _ _ _ _ (by simp; omega)
                go_wp2
                refine region_mid 4 _ _ rfl rfl (by kernel_rfl) (by kernel_rfl) ?_
                simp only [List.take_succ_cons, List.take_zero]
                refine wpStill_step (fun K hK => ?_)
                refine still_load_row 183 (.tmp 4) rfl w.heap.size rfl 183 C (0, 0) _ hb Tryz.underlying183 rfl (by rw [HC1.out]; exact sizeCode) (hK _ ?_)
                clear hK K
                repeat still_step
                refine wpStill_nil (fun K hK => ?_)
                go_simp
                refine (HRD.out _ _ hi.drew ht.drew _ _ HDD.out).mono ?_; rintro e w2 ⟨rfl, hi2, st2⟩
                refine hK _ _ ?_
                clear hK K
                repeat still_step
                refine wpStill_nil ?_
                have hown2 := hown.rowstep st2 hsW (by omega) HW1.out
                go_wp2_with (go_at_call 322; refine (HRL.out _ hown2).mono ?_; rintro e w3 ⟨rfl, m3, hw3⟩; rw [hw3]; clear hw3)
                go_region_with (first
                  | (go_at_call 323; refine (HTS.out _).mono ?_; rintro e w4 ⟨rfl, hb4⟩)
                  | (go_at_call 319; refine (within_ok (tspan x) (by omega) (by omega) _ ((hi2.drewN _).drew.below hb4) HH.out).mono ?_; rintro e w5 ⟨rfl, hi5, st5⟩; rw [← HNN.out]))
                have he5 := hi5.errs.row
                go_wp2
                go_quiet (fail)
                go_wp2
                go_ret2
                exact .inr ⟨HE.out, er.row, _, by simp [Errs.bad], rfl, hi5.drewN _, Step.drewN ((Step.drewN ((hstA.trans st).drew.trans st2) _).drew.trans ((Step.of_below hb4).trans st5)) _⟩
              · go_wp2
                refine region_mid 4 _ _ rfl rfl (by kernel_rfl) (by kernel_rfl) ?_
                simp only [List.take_succ_cons, List.take_zero]
                refine wpStill_step (fun K hK => ?_)
                refine still_load_row 183 (.tmp 4) rfl w.heap.size rfl 183 C (0, 0) _ hb Tryz.underlying183 rfl (by rw [HC1.out]; exact sizeCode) (hK _ ?_)
                clear hK K
                repeat still_step
                refine wpStill_nil (fun K hK => ?_)
                go_simp
                refine (HRD.out _ _ hi.drew ht.drew _ _ HDD.out).mono ?_; rintro e w2 ⟨rfl, hi2, st2⟩
                refine hK _ _ ?_
                clear hK K
                repeat still_step
                refine wpStill_nil ?_
                have hown2 := hown.rowstep st2 hsW (by omega) HW1.out
                go_wp2_with (go_at_call 322; refine (HRL.out _ hown2).mono ?_; rintro e w3 ⟨rfl, m3, hw3⟩; rw [hw3]; clear hw3)
                go_region_with (first
                  | (go_at_call 323; refine (HTS.out _).mono ?_; rintro e w4 ⟨rfl, hb4⟩)
                  | (go_at_call 319; refine (within_ok (tspan x) (by omega) (by omega) _ ((hi2.drewN _).drew.below hb4) HH.out).mono ?_; rintro e w5 ⟨rfl, hi5, st5⟩; rw [← HNN.out]))
                have hst5 : Step g o o W0 w5 := (Step.drewN (st.drew.trans st2) _).drew.trans ((Step.of_below hb4).trans st5)
                have hown4 := own_below (show ((w2.drewN m3).drew).ownsRow _ _ _ _ _ _ from hown2) hb4
                have hown5' := hown4.rowstep (W0 := W0) (g := g) (o := o) (show Step g o o w4.drew w5 from ⟨st5.os, st5.tape, st5.output, st5.size, st5.block, st5.moved⟩) (by have := hst5.size; have := st5.size; have := hb4.size; have := st2.size; simp at *; omega) (by omega) HW1.out
                rw [← HK3.out] at hi5
                have hown5'' : w5.ownsRow (w.heap.size + 1) 3 1 (.slice ao n cap) (n + 0) (ivals (r ++ List.replicate 0 y)) := by simpa using hown5'
                have hk3 : k' < K3 := by have := dec_le HDD.out; have := HK3.out; omega
                clear hown hown2 hown4 hown5' hi hi2 st st2 st5 hb4 ht hb HRL HTS HRs HRb HRf HRD HRN
                go_wp2
                go_loopw [8, 65] (fun v vi wx => ∃ (i cap' : Nat) (ao' : Option Addr), i ≤ N ∧ vi = .int .i64 i ∧ v = .slice ao' (n + i) cap' ∧ wx.ownsRow (w.heap.size + 1) 3 1 (.slice ao' (n + i) cap') (n + i) (ivals (r ++ List.replicate i y)) ∧ Inf er g s lim fx K3 o out wx ∧ Step g o o W0 wx) (fun _ vi _ => N - (intOf vi).toNat)
                case atStart => exact ⟨0, cap, ao, by omega, rfl, rfl, hown5'', hi5, hst5⟩
                case round =>
                  clear hown5'' hi5 hst5
                  obtain ⟨i, cap', ao', hiN, rfl, rfl, hownI, hiI, stI⟩ := hrel
                  by_cases hiL : i < N
                  · go_wp2_with (at_builtin; refine wpList_append_lies _ rfl _ _ 87 rfl (w.heap.size + 1) 3 i0 (.int .i64 0) 1 8 Tryz.underlying87 hi0 hz0 hz1 hz2 rfl (by decide) _ (n + i) (ivals (r ++ List.replicate i y)) rfl (World.ownsRow.alloc hownI _) ⟨_, 0, none⟩ 1 1 [.int .i64 (y : Int)] rfl rfl (cell_one_new _ _ _) (by simp [Value.oneCell']) (by decide) (by unfold maxLen; omega) (by omega) (by simp; have := stI.size; omega) _ rfl ?_; intro g2 cap2 w6 hown6 hg6 hat _; have HG := (show Hid _ from Inf.rowgrown hiI stI (Nat.le_of_eq hz0') ⟨hiI, HW1.out⟩ hownI ((Below.refl _ _).alloc (Nat.le_refl _) _) hg6); have HO5 := (show Hid _ from hown6); clear hown6 hg6 hat)
                    go_roundw
                    case rel =>
                      first
                        | exact ⟨i + 1, cap2, some ⟨g2, 0, none⟩, by omega, by go_num, rfl, by rw [List.replicate_succ', ← List.append_assoc, ivals_snoc]; exact HO5.out, HG.out.1, HG.out.2⟩
                        | ((repeat apply Exists.intro); exact ⟨⟨i + 1, cap2, some ⟨g2, 0, none⟩, by omega, by go_num, rfl, by rw [List.replicate_succ', ← List.append_assoc, ivals_snoc]; exact HO5.out, HG.out.1, HG.out.2⟩, rfl⟩)
                    case measure => simp [intOf]; omega
                  · obtain rfl : i = N := by omega
                    have HO : Hid _ := hownI
                    clear hownI
                    have hN3 : 3 ≤ i := by have := HNN.out; have := tspan_pos x; omega
                    have hlr : (r ++ List.replicate i y).length = n + i := by simp [hlen]
                    go_wp2
                    go_roundw
                    case rel =>
                      refine ⟨f, K3, cap', ao', r ++ List.replicate i y, by rw [hlr]; omega, by rw [hlr]; omega, HRn, ?_, by rw [hlr], by rw [hlr]; exact HO.out, hiI, stI⟩
                      intro z hz
                      rcases List.mem_append.1 hz with hz | hz
                      · exact HR15.out z hz
                      · rw [List.eq_of_mem_replicate hz]; exact hy15
                    case measure => simp [sliceLen]; omega
            · have HE : Hid (R = none) := by rw [HRs.out]; show _ = _; rw [if_neg hh]
              have HH : Hid (¬ k2 + (tspan x).2 ≤ 8 * s.size) := by show ¬ _; unfold has at hh; omega
              clear hh
              go_wp2
              refine region_mid 4 _ _ rfl rfl (by kernel_rfl) (by kernel_rfl) ?_
              simp only [List.take_succ_cons, List.take_zero]
              refine wpStill_step (fun K hK => ?_)
              refine still_load_row 183 (.tmp 4) rfl w.heap.size rfl 183 C (0, 0) _ hb Tryz.underlying183 rfl (by rw [HC1.out]; exact sizeCode) (hK _ ?_)
              clear hK K
              repeat still_step
              refine wpStill_nil (fun K hK => ?_)
              go_simp
              refine (HRD.out _ _ hi.drew ht.drew _ _ HDD.out).mono ?_; rintro e w2 ⟨rfl, hi2, st2⟩
              refine hK _ _ ?_
              clear hK K
              repeat still_step
              refine wpStill_nil ?_
              have hown2 := hown.rowstep st2 hsW (by omega) HW1.out
              go_wp2_with (go_at_call 322; refine (HRL.out _ hown2).mono ?_; rintro e w3 ⟨rfl, m3, hw3⟩; rw [hw3]; clear hw3)
              go_region_with (first
                | (go_at_call 323; refine (HTS.out _).mono ?_; rintro e w4 ⟨rfl, hb4⟩)
                | (go_at_call 319; refine (within_end (tspan x) (by omega) _ ((hi2.drewN _).drew.below hb4) HH.out).mono ?_; rintro e w5 ⟨rfl, hi5, st5⟩; unfold errV))
              go_wp2
              go_ret2
              exact .inr ⟨HE.out, er.short, _, by simp [Errs.bad], rfl, hi5, (Step.drewN ((hstA.trans st).drew.trans st2) _).drew.trans ((Step.of_below hb4).trans st5)⟩
    · have hnm : n = many := by omega
      have HE : Hid (R = some (k', r)) := by rw [HRf.out]; exact rowGo_end _ _ _ _ _ _ (by rw [← Hn.out]; exact hnm)
      have HO : Hid (wr.ownsRow (w.heap.size + 1) 3 1 (.slice ao n cap) n (ivals r)) := hown
      clear hown
      go_wp2
      go_ret2
      exact .inl ⟨k', r, _, HE.out, rfl, by rw [← Hn.out]; exact HO.out.weaken (by omega), hi, hstA.trans st⟩
end
end Go.Proofs.YtgfbbcnnmoamnaaGreatDoor

namespace Go.Proofs.YtgfbbcnnmoamnaaGreatDoor
open Go.RowKit

theorem distanceCode_ok {er : Errs} (lens : List Nat) (hl : lens.length ≤ 400) (h15 : ∀ n ∈ lens, n ≤ 15) (h off cap : Nat) (w : World) (hI : IntsAt w h off lens) (hE : er.At w) (hk : ¬ (kraft lens ≠ 32768 ∧ lens.sum > 1)) :
    Calls Tryz.prog 324 #[.slice (some ⟨h, off, none⟩) lens.length cap] w fun e w' => ∃ b, e = .returned (.tuple #[.agg (CA lens b), .nilIface]) ∧ w.heap.size ≤ b ∧ w'.heap[b]? = some (.cells (rowi (codeSyms lens)) 3 (0, 0)) ∧ Below w.heap.size w w' := by
  refine (distanceCode_any lens hl h15 h off cap w hI hE).mono ?_
  rintro e w' (⟨_, x⟩ | ⟨x, _⟩)
  · exact x
  · exact absurd x hk
theorem distanceCode_bad {er : Errs} (lens : List Nat) (hl : lens.length ≤ 400) (h15 : ∀ n ∈ lens, n ≤ 15) (h off cap : Nat) (w : World) (hI : IntsAt w h off lens) (hE : er.At w) (hk : kraft lens ≠ 32768 ∧ lens.sum > 1) :
    Calls Tryz.prog 324 #[.slice (some ⟨h, off, none⟩) lens.length cap] w fun e w' => e = .returned (.tuple #[.agg zeroCode, errV er.lengths]) ∧ Below w.heap.size w w' := by
  refine (distanceCode_any lens hl h15 h off cap w hI hE).mono ?_
  rintro e w' (⟨x, _⟩ | ⟨_, x⟩)
  · exact absurd hk x
  · exact x
/-- no codes -/
def zeroCodes : Array Value := zeroCode ++ zeroCode
theorem zeroCodes_size : zeroCodes.size = 34 := rfl
theorem zeroCodes_one : zeroCodes.all (·.oneCell') = true := by kernel_rfl
/-- are the lengths of a block's codes right? -/
def okCodes (l d : List Nat) : Prop := ¬ (l.getD 256 0 = 0 ∨ kraft l ≠ 32768 ∨ (kraft d ≠ 32768 ∧ d.sum > 1))
set_option maxHeartbeats 1000000 in
set_option maxRecDepth 8000 in
theorem codesOf_any {er : Errs} (l d : List Nat) (hl : l.length ≤ 400) (hd : d.length ≤ 400) (hl2 : 257 ≤ l.length) (l15 : ∀ n ∈ l, n ≤ 15) (d15 : ∀ n ∈ d, n ≤ 15) (h cl cd : Nat) (w : World) (hI : IntsAt w h 0 l) (hJ : IntsAt w h l.length d) (hE : er.At w) :
    Calls Tryz.prog 281 #[.slice (some ⟨h, 0, none⟩) l.length cl, .slice (some ⟨h, l.length, none⟩) d.length cd] w fun e w' =>
      (okCodes l d ∧ ∃ b1 b2, e = .returned (.tuple #[.agg (CC l d b1 b2), .nilIface]) ∧ w.heap.size ≤ b1 ∧ w.heap.size ≤ b2 ∧ w'.heap[b1]? = some (.cells (rowi (codeSyms l)) 3 (0, 0)) ∧ w'.heap[b2]? = some (.cells (rowi (codeSyms d)) 3 (0, 0)) ∧ Below w.heap.size w w') ∨
      (¬ okCodes l d ∧ ∃ b, er.bad b ∧ e = .returned (.tuple #[.agg zeroCodes, errV b]) ∧ Below w.heap.size w w') := by
  have c256 := hI.2 256 (by omega)
  have ro := fun w hI hE hk => rightCode_ok (er := er) l hl l15 h 0 cl w hI hE hk
  have rb := fun w hI hE hk => rightCode_bad (er := er) l hl l15 h 0 cl w hI hE hk
  have dO := fun w hI hE hk => distanceCode_ok (er := er) d hd d15 h l.length cd w hI hE hk
  have dB := fun w hI hE hk => distanceCode_bad (er := er) d hd d15 h l.length cd w hI hE hk
  obtain ⟨x, Hx⟩ := hid_intro (l.getD 256 0)
  rw [← Hx.out, Nat.zero_add] at c256
  have c256' : ∀ ob, (w.alloc ob).cell? ⟨h, 256, none⟩ = some (.int .i64 (x : Int)) := fun ob => (World.cell?_of_block (w := w) (Below.heap_alloc w ob h hI.1)).trans c256
  clear c256
  obtain ⟨n, Hn⟩ := hid_intro l.length
  obtain ⟨m, Hm⟩ := hid_intro d.length
  rw [← Hn.out] at ro rb dO dB hl2 hl hJ ⊢
  rw [← Hm.out] at dO dB hd ⊢
  have RO : Hid _ := ro
  have RB : Hid _ := rb
  have DO : Hid _ := dO
  have DB : Hid _ := dB
  have HI : Hid (IntsAt w h 0 l) := hI
  have HJ : Hid (IntsAt w h n d) := hJ
  have HE : Hid (er.At w) := hE
  clear ro rb dO dB hI hJ hE l15 d15
  go_enter Tryz.func281, Tryz.ntmps281
  by_cases hx : x = 0
  · have HO : Hid (¬ okCodes l d) := fun ho => ho (.inl (by rw [← Hx.out]; exact hx))
    subst hx
    go_wp2
    obtain ⟨W, HW⟩ : ∃ W, Hid (W = w.alloc (.cells zeroCodes 185)) := ⟨_, rfl⟩
    have hWe : w.alloc (.cells #[.int .i64 0, .int .i64 0, .int .i64 0, .int .i64 0, .int .i64 0, .int .i64 0, .int .i64 0, .int .i64 0, .int .i64 0, .int .i64 0, .int .i64 0, .int .i64 0, .int .i64 0, .int .i64 0, .int .i64 0, .int .i64 0, .slice none 0 0, .int .i64 0, .int .i64 0, .int .i64 0, .int .i64 0, .int .i64 0, .int .i64 0, .int .i64 0, .int .i64 0, .int .i64 0, .int .i64 0, .int .i64 0, .int .i64 0, .int .i64 0, .int .i64 0, .int .i64 0, .int .i64 0, .slice none 0 0] 185) = W := by rw [HW.out]; rfl
    rw [hWe]
    have HBW : Hid (Below w.heap.size w W) := by rw [HW.out]; exact (Below.refl _ w).alloc (Nat.le_refl _) _
    have hee := (HE.out.below HBW.out HE.out.size).noEnd
    have HR0 : Hid (W.heap[w.heap.size]? = some (.cells zeroCodes 185 (0, 0))) := by rw [HW.out]; exact heap_alloc_new w _
    clear hWe
    refine wp_region_still_lit (by kernel_rfl) (by kernel_rfl) ?_
    still_step
    still_step
    refine wpStill_step (fun K hK => ?_)
    refine still_store_row 185 (.tmp 4) (.tmp 13) rfl w.heap.size zeroCodes rfl rfl 185 HR0.out sizeCodes zeroCodes_one (hK _ ?_)
    clear hK K
    repeat still_step
    refine wpStill_nil ?_
    go_wp2
    refine bodyPost_ret_by (v := .tuple #[.agg zeroCodes, errV er.noEnd]) (results_row_tmp Tryz.results281 _ _ w.heap.size 185 zeroCodes (0, 0) _ rfl HR0.out Tryz.underlying185 rfl sizeCodes) rfl (.inr ⟨HO.out, er.noEnd, by simp [Errs.bad], rfl, HBW.out.drew⟩)
  · by_cases hk : kraft l = 32768
    · by_cases hk2 : kraft d ≠ 32768 ∧ d.sum > 1
      · have HO : Hid (¬ okCodes l d) := fun ho => ho (.inr (.inr hk2))
        go_wp2_with (first
          | (go_at_call 321; refine (RO.out _ (HI.out.keep ((Below.refl _ w).alloc (Nat.le_refl _) _)) (HE.out.below ((Below.refl _ w).alloc (Nat.le_refl _) _) HE.out.size) hk).mono ?_; rintro e w1 ⟨b1, rfl, hb11, hb12, hb1⟩; have z1 := hb1.size; simp only [World.size_alloc] at z1 hb1; have HR1 := (show Hid _ from (hb1.block w.heap.size (by omega)).trans (heap_alloc_new w _)); have HB1 := (show Hid (Below w.heap.size w w1) from ((Below.refl _ w).alloc (Nat.le_refl _) _).trans (hb1.mono (by omega))); clear hb1)
          | (refine wpList_store_row rfl 183 (.tmp 6) _ rfl w1.heap.size (CA l b1) rfl rfl 183 _ (heap_alloc_new w1 _) ?_ ?_ ?_ ?_; (rw [CA_size]; exact sizeCode); (rw [CA_size]; rfl); exact CA_one l b1; rw [World.setRow_alloc_new])
          | (go_at_call 324; refine (DB.out _ ((HJ.out.below HB1.out HJ.out.1).keep ((Below.refl _ w1).alloc (Nat.le_refl _) _)) (HE.out.below (HB1.out.alloc (by omega) _) HE.out.size) hk2).mono ?_; rintro e w2 ⟨rfl, hb2⟩; have z2 := hb2.size; simp only [World.size_alloc] at z2 hb2; have HR2 := (show Hid _ from (hb2.block w.heap.size (by omega)).trans (alloc_keeps HR1.out)); have HB2 := (show Hid (Below w.heap.size w w2) from (HB1.out.alloc (by omega) _).trans (hb2.mono (by omega))); unfold errV; clear hb2)
          | (refine wpList_store_row rfl 183 _ _ rfl w2.heap.size zeroCode rfl rfl 183 _ (heap_alloc_new w2 _) sizeCode rfl zeroCode_one ?_; rw [World.setRow_alloc_new])
          | (refine wpList_store_row rfl 185 (.tmp 4) _ rfl w.heap.size zeroCodes rfl rfl 185 _ (alloc_keeps HR2.out) sizeCodes rfl zeroCodes_one ?_; rw [setRow_same (cs := zeroCodes) (alloc_keeps HR2.out)]))
        refine bodyPost_ret_by (v := .tuple #[.agg zeroCodes, errV er.lengths]) (results_row_tmp Tryz.results281 _ _ w.heap.size 185 zeroCodes (0, 0) _ rfl (alloc_keeps HR2.out) Tryz.underlying185 rfl sizeCodes) rfl (.inr ⟨HO.out, er.lengths, by simp [Errs.bad], rfl, HB2.out.alloc (by omega) _⟩)
      · have HO : Hid (okCodes l d) := fun ho => by
          rcases ho with ho | ho | ho
          · exact hx (by rw [Hx.out]; exact ho)
          · exact ho hk
          · exact hk2 ho
        go_wp2_with (first
          | (go_at_call 321; refine (RO.out _ (HI.out.keep ((Below.refl _ w).alloc (Nat.le_refl _) _)) (HE.out.below ((Below.refl _ w).alloc (Nat.le_refl _) _) HE.out.size) hk).mono ?_; rintro e w1 ⟨b1, rfl, hb11, hb12, hb1⟩; have z1 := hb1.size; simp only [World.size_alloc] at z1 hb1; have HR1 := (show Hid _ from (hb1.block w.heap.size (by omega)).trans (heap_alloc_new w _)); have HB1 := (show Hid (Below w.heap.size w w1) from ((Below.refl _ w).alloc (Nat.le_refl _) _).trans (hb1.mono (by omega))); clear hb1)
          | (refine wpList_store_row rfl 183 (.tmp 6) _ rfl w1.heap.size (CA l b1) rfl rfl 183 _ (heap_alloc_new w1 _) ?_ ?_ ?_ ?_; (rw [CA_size]; exact sizeCode); (rw [CA_size]; rfl); exact CA_one l b1; rw [World.setRow_alloc_new])
          | (go_at_call 324; refine (DO.out _ ((HJ.out.below HB1.out HJ.out.1).keep ((Below.refl _ w1).alloc (Nat.le_refl _) _)) (HE.out.below (HB1.out.alloc (by omega) _) HE.out.size) hk2).mono ?_; rintro e w2 ⟨b2, rfl, hb21, hb22, hb2⟩; have z2 := hb2.size; simp only [World.size_alloc] at z2 hb2; have HR2 := (show Hid _ from (hb2.block w.heap.size (by omega)).trans (alloc_keeps HR1.out)); have HB2 := (show Hid (Below w.heap.size w w2) from (HB1.out.alloc (by omega) _).trans (hb2.mono (by omega))); have HL2 := (show Hid _ from (hb2.block b1 (by have := lt_of_block hb12; omega)).trans (alloc_keeps hb12)); have HV2 := (show Hid _ from (hb2.block w1.heap.size (by omega)).trans (heap_alloc_new w1 _)); clear hb2)
          | (refine wpList_store_row rfl 183 _ _ rfl w2.heap.size (CA d b2) rfl rfl 183 _ (heap_alloc_new w2 _) ?_ ?_ ?_ ?_; (rw [CA_size]; exact sizeCode); (rw [CA_size]; rfl); exact CA_one d b2; rw [World.setRow_alloc_new])
          | (refine wpList_load_row rfl 183 (.tmp 6) rfl w1.heap.size rfl 183 (CA l b1) (0, 0) _ (alloc_keeps HV2.out) Tryz.underlying183 rfl ?_ ?_; (rw [CA_size]; exact sizeCode))
          | (refine wpList_load_row rfl 183 _ rfl w2.heap.size rfl 183 (CA d b2) (0, 0) _ (heap_alloc_new w2 _) Tryz.underlying183 rfl ?_ ?_; (rw [CA_size]; exact sizeCode))
          | (refine wpList_buildTo rfl 185 _ rfl _ rfl (CC l d b1 b2) ?_ ?_; (simp only [List.map_toArray, List.map_cons, List.map_nil]; exact CC_built l d b1 b2))
          | (refine wpList_store_row rfl 185 (.tmp 4) _ rfl w.heap.size (CC l d b1 b2) rfl rfl 185 _ (alloc_keeps HR2.out) ?_ ?_ ?_ ?_; (rw [CC_size]; exact sizeCodes); (rw [CC_size]; rfl); exact CC_one l d b1 b2))
        refine bodyPost_ret_by (v := .tuple #[.agg (CC l d b1 b2), .nilIface]) (results_row_tmp Tryz.results281 _ _ w.heap.size 185 (CC l d b1 b2) (0, 0) _ rfl (setRow_heap _ _ _ _ _ _ (alloc_keeps HR2.out)) Tryz.underlying185 rfl (by rw [CC_size]; exact sizeCodes)) rfl (.inl ⟨HO.out, b1, b2, rfl, by simp at hb11; omega, by simp at hb21; omega, ?_, ?_, below_row (HB2.out.alloc (by omega) _) (Nat.le_refl _) _⟩)
        · exact (setRow_other _ _ _ _ (by simp at hb11; omega)).trans (alloc_keeps HL2.out)
        · exact (setRow_other _ _ _ _ (by simp at hb21; omega)).trans (alloc_keeps hb22)
    · have HO : Hid (¬ okCodes l d) := fun ho => ho (.inr (.inl hk))
      go_wp2_with (first
      | (go_at_call 321; refine (RB.out _ (HI.out.keep ((Below.refl _ w).alloc (Nat.le_refl _) _)) (HE.out.below ((Below.refl _ w).alloc (Nat.le_refl _) _) HE.out.size) hk).mono ?_; rintro e w1 ⟨rfl, hb1⟩; have z1 := hb1.size; simp only [World.size_alloc] at z1 hb1; have HR1 := (show Hid _ from (hb1.block w.heap.size (by omega)).trans (heap_alloc_new w _)); have HB1 := (show Hid (Below w.heap.size w w1) from ((Below.refl _ w).alloc (Nat.le_refl _) _).trans (hb1.mono (by omega))); clear hb1; unfold errV)
        | (refine wpList_store_row rfl 183 (.tmp 6) _ rfl w1.heap.size zeroCode rfl rfl 183 _ (heap_alloc_new w1 _) sizeCode rfl zeroCode_one ?_; rw [World.setRow_alloc_new])
        | (refine wpList_store_row rfl 185 (.tmp 4) _ rfl w.heap.size zeroCodes rfl rfl 185 _ (alloc_keeps HR1.out) sizeCodes rfl zeroCodes_one ?_; rw [setRow_same (cs := zeroCodes) (alloc_keeps HR1.out)]))
      refine bodyPost_ret_by (v := .tuple #[.agg zeroCodes, errV er.lengths]) (results_row_tmp Tryz.results281 _ _ w.heap.size 185 zeroCodes (0, 0) _ rfl (alloc_keeps HR1.out) Tryz.underlying185 rfl sizeCodes) rfl (.inr ⟨HO.out, er.lengths, by simp [Errs.bad], rfl, HB1.out.alloc (by omega) _⟩)
end Go.Proofs.YtgfbbcnnmoamnaaGreatDoor
