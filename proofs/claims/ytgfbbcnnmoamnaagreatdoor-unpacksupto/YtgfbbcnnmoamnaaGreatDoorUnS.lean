/- What comes out of a stream is no longer than its limit. What is unpacked: the program's. What is unpacked: the document's. -/
import Derived.Test.YtgfbbcnnmoamnaaGreatDoorBase
import Derived.Test.YtgfbbcnnmoamnaaGreatDoorSuShelf
import Derived.Test.YtgfbbcnnmoamnaaGreatDoorPY
import Derived.Test.YtgfbbcnnmoamnaaGreatDoorRL
namespace Go.Proofs.YtgfbbcnnmoamnaaGreatDoor

theorem copyN_len {limit back k : Nat} : ∀ (n : Nat) (out : List UInt8) {k' : Nat} {out' : List UInt8}, out.length ≤ limit → copyN limit back k n out = .ok k' out' → out'.length ≤ limit
  | 0, out, k', out', h, e => by rw [copyN] at e; injection e with _ e; rw [← e]; exact h
  | n + 1, out, k', out', h, e => by
    rw [copyN] at e
    split at e
    · cases e
    · exact copyN_len n _ (by simp; omega) e
theorem matchS_len {dl : List Nat} {s : List UInt8} {limit x k : Nat} {out : List UInt8} {k' : Nat} {out' : List UInt8} (h : out.length ≤ limit) (e : matchS dl s limit x k out = .ok k' out') : out'.length ≤ limit := by
  unfold matchS at e
  split at e
  · split at e
    · cases e
    · split at e
      · cases e
      · split at e
        · split at e
          · cases e
          · exact copyN_len _ _ h e
        · cases e
  · cases e
theorem symsGo_len {ll dl : List Nat} {s : List UInt8} {limit : Nat} : ∀ (f k : Nat) (out : List UInt8) {k' : Nat} {out' : List UInt8}, out.length ≤ limit → symsGo ll dl s limit f k out = .ok k' out' → out'.length ≤ limit
  | 0, _, _, _, _, _, e => by rw [symsGo] at e; cases e
  | f + 1, k, out, k', out', h, e => by
    rw [symsGo] at e
    unfold symStep at e
    split at e
    · cases e
    · split at e
      · split at e
        · cases e
        · exact symsGo_len f _ _ (by simp; omega) e
      · split at e
        · injection e with _ e; rw [← e]; exact h
        · split at e
          · cases e
          · split at e
            · cases e
            · rename_i hm
              exact symsGo_len f _ _ (matchS_len h hm) e
theorem rawGo_len {s : List UInt8} {limit : Nat} : ∀ (n k : Nat) (out : List UInt8) {k' : Nat} {out' : List UInt8}, out.length ≤ limit → rawGo s limit n k out = .ok k' out' → out'.length ≤ limit
  | 0, k, out, _, _, h, e => by rw [rawGo] at e; injection e with _ e; rw [← e]; exact h
  | n + 1, k, out, _, _, h, e => by
    rw [rawGo] at e
    split at e
    · split at e
      · cases e
      · exact rawGo_len n _ _ (by simp; omega) e
    · cases e
theorem blockS_len {s : List UInt8} {limit kind k : Nat} {out : List UInt8} {k' : Nat} {out' : List UInt8} (h : out.length ≤ limit) (e : blockS s limit kind k out = .ok k' out') : out'.length ≤ limit := by
  unfold blockS at e
  split at e
  · unfold storedS at e
    split at e
    · split at e
      · exact rawGo_len _ _ _ h e
      · cases e
    · cases e
  · split at e
    · exact symsGo_len _ _ _ h e
    · split at e
      · split at e
        · cases e
        · exact symsGo_len _ _ _ h e
      · cases e
theorem blocksGo_len {s : List UInt8} {limit : Nat} : ∀ (f k : Nat) (out : List UInt8) {k' : Nat} {out' : List UInt8}, out.length ≤ limit → blocksGo s limit f k out = .ok k' out' → out'.length ≤ limit
  | 0, _, _, _, _, _, e => by rw [blocksGo] at e; cases e
  | f + 1, k, out, k', out', h, e => by
    rw [blocksGo] at e
    split at e
    · split at e
      · cases e
      · rename_i hm
        split at e
        · injection e with _ e; rw [← e]; exact blockS_len h hm
        · exact blocksGo_len f _ _ (blockS_len h hm) e
    · cases e
theorem inflS_len {s : List UInt8} {lim k : Nat} {out : List UInt8} (h : inflS s lim = .ok k out) : out.length ≤ lim := blocksGo_len _ _ _ (by simp) h
theorem copyN_err {limit back k : Nat} : ∀ (n : Nat) (out : List UInt8) {c : Nat}, copyN limit back k n out = .err c → c = 5 ∨ c = 6
  | 0, out, c, e => by rw [copyN] at e; cases e
  | n + 1, out, c, e => by
    rw [copyN] at e
    split at e
    · injection e with e; exact .inr e.symm
    · exact copyN_err n _ e
theorem matchS_err {dl : List Nat} {s : List UInt8} {limit x k : Nat} {out : List UInt8} {c : Nat} (e : matchS dl s limit x k out = .err c) : c = 5 ∨ c = 6 := by
  unfold matchS at e
  split at e
  · split at e
    · injection e with e; exact .inl e.symm
    · split at e
      · injection e with e; exact .inl e.symm
      · split at e
        · split at e
          · injection e with e; exact .inl e.symm
          · exact copyN_err _ _ e
        · injection e with e; exact .inl e.symm
  · injection e with e; exact .inl e.symm
theorem symsGo_err {ll dl : List Nat} {s : List UInt8} {limit : Nat} : ∀ (f k : Nat) (out : List UInt8) {c : Nat}, symsGo ll dl s limit f k out = .err c → c = 5 ∨ c = 6
  | 0, _, _, _, e => by rw [symsGo] at e; injection e with e; exact .inl e.symm
  | f + 1, k, out, c, e => by
    rw [symsGo] at e
    unfold symStep at e
    split at e
    · injection e with e; exact .inl e.symm
    · split at e
      · split at e
        · injection e with e; exact .inr e.symm
        · exact symsGo_err f _ _ e
      · split at e
        · cases e
        · split at e
          · injection e with e; exact .inl e.symm
          · split at e
            · rename_i hm
              injection e with e
              subst e
              exact matchS_err hm
            · exact symsGo_err f _ _ e
theorem rawGo_err {s : List UInt8} {limit : Nat} : ∀ (n k : Nat) (out : List UInt8) {c : Nat}, rawGo s limit n k out = .err c → c = 5 ∨ c = 6
  | 0, k, out, _, e => by rw [rawGo] at e; cases e
  | n + 1, k, out, _, e => by
    rw [rawGo] at e
    split at e
    · split at e
      · injection e with e; exact .inr e.symm
      · exact rawGo_err n _ _ e
    · injection e with e; exact .inl e.symm
theorem blockS_err {s : List UInt8} {limit kind k : Nat} {out : List UInt8} {c : Nat} (e : blockS s limit kind k out = .err c) : c = 5 ∨ c = 6 := by
  unfold blockS at e
  split at e
  · unfold storedS at e
    split at e
    · split at e
      · exact rawGo_err _ _ _ e
      · injection e with e; exact .inl e.symm
    · injection e with e; exact .inl e.symm
  · split at e
    · exact symsGo_err _ _ _ e
    · split at e
      · split at e
        · injection e with e; exact .inl e.symm
        · exact symsGo_err _ _ _ e
      · injection e with e; exact .inl e.symm
theorem blocksGo_err {s : List UInt8} {limit : Nat} : ∀ (f k : Nat) (out : List UInt8) {c : Nat}, blocksGo s limit f k out = .err c → c = 5 ∨ c = 6
  | 0, _, _, _, e => by rw [blocksGo] at e; injection e with e; exact .inl e.symm
  | f + 1, k, out, c, e => by
    rw [blocksGo] at e
    split at e
    · split at e
      · rename_i hm
        injection e with e
        subst e
        exact blockS_err hm
      · split at e
        · cases e
        · exact blocksGo_err f _ _ e
    · injection e with e; exact .inl e.symm
theorem inflS_err {s : List UInt8} {lim c : Nat} (h : inflS s lim = .err c) : c = 5 ∨ c = 6 := blocksGo_err _ _ _ h
end Go.Proofs.YtgfbbcnnmoamnaaGreatDoor

namespace Go.Proofs.YtgfbbcnnmoamnaaGreatDoor.Tr
open Go.RowKit Go.Proofs.YtgfbbcnnmoamnaaGreatDoor Go.Proofs.YtgfbbcnnmoamnaaGreatDoor.Lk

/-- what is answered: the error, the entries -/
def unpA (s : ByteArray) : Nat × List E :=
  if 20000 < s.size then (1, [])
  else match inflS s.data.toList 20000 with
    | .err c => (c, [])
    | .ok k out => match refA out with
      | some m => if (k + 7) / 8 = s.size then (0, m) else (7, [])
      | none => (7, [])
theorem told_fit {s : List UInt8} {m : List E} (h : refA s = some m) : m.length ≤ 60 ∧ FitE m := by
  have ht := (refA_some h).1
  obtain ⟨h1, h2, _, _, _⟩ := tree_parts ht
  refine ⟨h1, fun e he => ⟨?_, ?_⟩⟩
  · have := path_len ((treeP_of ht).path he)
    omega
  · have := body_le he
    omega
theorem unp_fit (s : ByteArray) : (unpA s).2.length ≤ 60 ∧ FitE (unpA s).2 := by
  unfold unpA
  split
  · exact ⟨by simp, FitE_nil⟩
  · split
    · exact ⟨by simp, FitE_nil⟩
    · split
      · rename_i h
        split
        · exact told_fit h
        · exact ⟨by simp, FitE_nil⟩
      · exact ⟨by simp, FitE_nil⟩
def UpOk (s : ByteArray) (w : World) (r : Ending) (w' : World) : Prop :=
  ∃ t k c, r = .returned (.tuple #[.agg #[.slice t k c], .int .i64 ((unpA s).1 : Int)]) ∧ TreeAt w' (fun b => w.heap.size ≤ b) 7 (.slice t k c) [] (unpA s).2 ∧ Below w.heap.size w w'
set_option maxRecDepth 8000 in
set_option maxHeartbeats 1000000 in
theorem unpackedP_any {er : Errs} (s : ByteArray) (w : World) (he : er.Full w) (hN : NumErrs w) (hP : Pow w) : Calls Tryz.prog 14 #[.string s] w (UpOk s w) := by
  have HEF := toHid he
  have HN := toHid hN
  have HP := toHid hP
  have hb0 : Below w.heap.size w (w.alloc (.cells #[.slice none 0 0] 37 (0, 0))) := (Below.refl _ w).alloc (Nat.le_refl _) _
  have HB0 := toHid hb0
  have HR0 := toHid (heap_alloc_new w (.cells #[.slice none 0 0] 37 (0, 0)))
  have HE0 : Hid (er.Full (w.alloc (.cells #[.slice none 0 0] 37 (0, 0)))) := he.below hb0
  have hdef : unpA s = if 20000 < s.size then (1, []) else match inflS s.data.toList 20000 with
    | .err c => (c, [])
    | .ok k out => match refA out with
      | some m => if (k + 7) / 8 = s.size then (0, m) else (7, [])
      | none => (7, []) := rfl
  unfold UpOk
  obtain ⟨A, HA⟩ := hid_intro (unpA s)
  rw [← HA.out] at hdef ⊢
  clear he hN hP hb0 HEF HA
  by_cases hm : 20000 < s.size
  · have HD : Hid (A = (1, [])) := by show _ = _; rw [hdef, if_pos hm]
    have HM : Hid (s.size > 20000 ∨ (20000 : Int) < 0 ∨ (20000 : Int) > 20000) := .inl hm
    clear hdef hm
    go_enter Tryz.func14, Tryz.ntmps14
    go_wp2_with (first
      | (go_at_call 37; refine (sInflate_many s 20000 HM.out _ HE0.out.lay).mono ?_; rintro e w1 ⟨hb1, rfl⟩; have HW1 := toHid hb1; clear hb1; have HE1 := toHid (HE0.out.below HW1.out); unfold errV)
      | (go_at_call 11; refine (streamErrno_many _ HE1.out).mono ?_; rintro e w2 ⟨rfl, hb2⟩; have HW2 := toHid hb2; clear hb2; have HR2 : Hid (w2.heap[w.heap.size]? = some (.cells #[.slice none 0 0] 37 (0, 0))) := ((HW2.out.block w.heap.size (by have := HW1.out.size; simp at this; omega)).trans (HW1.out.block w.heap.size (by simp))).trans HR0.out; have q0 : w2.cell? ⟨w.heap.size, 0, none⟩ = some (.slice none 0 0) := (cell_of_row w2 _ 0 _ _ _ HR2.out).trans rfl; have f0 : w2.frozen? ⟨w.heap.size, 0, none⟩ = false := frozen_of_row w2 _ _ _ _ HR2.out))
    refine bodyPost_ret_by (v := .tuple #[.agg #[.slice none 0 0], .int .i64 1]) (rowTmp Tryz.results14 _ _ w.heap.size 37 _ (0, 0) _ rfl (setCell_new HR2.out) Tryz.underlying37 rfl sizeTree) rfl ⟨none, 0, 0, by first | (rw [HD.out]; done) | (rw [HD.out]; rfl), by rw [HD.out]; exact TreeAt.nil _ _ _ _, ?_⟩
    exact ((HB0.out.trans (HW1.out.mono (by simp))).trans (HW2.out.mono (by have := HW1.out.size; simp at this; omega))).setCell (Nat.le_refl _) _
  · have hs : s.size ≤ 20000 := by omega
    rw [if_neg hm] at hdef
    clear hm
    cases hR : inflS s.data.toList 20000 with
    | err c =>
      rw [hR] at hdef
      have HD : Hid (A = (c, [])) := hdef
      have HR := toHid hR
      clear hdef hR
      go_enter Tryz.func14, Tryz.ntmps14
      go_wp2_with (first
        | (go_at_call 37; refine (sInflate_bad s 20000 hs (Nat.le_refl _) _ HE0.out.lay HR.out).mono ?_; rintro e w1 ⟨hb1, b, kk, f, hfw, rfl, hff, hcc⟩; have HFF := toHid (And.intro hff hcc); have HW1 := toHid hb1; clear hff hcc hb1; have HE1 := toHid (HE0.out.below HW1.out))
        | (go_at_call 11; refine (streamErrno_fault f b _ c _ HE1.out HFF.out.1 HFF.out.2).mono ?_; rintro e w2 ⟨rfl, hb2⟩; have HW2 := toHid hb2; clear hb2; have HR2 : Hid (w2.heap[w.heap.size]? = some (.cells #[.slice none 0 0] 37 (0, 0))) := ((HW2.out.block w.heap.size (by have := HW1.out.size; simp at this; omega)).trans (HW1.out.block w.heap.size (by simp))).trans HR0.out; have q0 : w2.cell? ⟨w.heap.size, 0, none⟩ = some (.slice none 0 0) := (cell_of_row w2 _ 0 _ _ _ HR2.out).trans rfl; have f0 : w2.frozen? ⟨w.heap.size, 0, none⟩ = false := frozen_of_row w2 _ _ _ _ HR2.out))
      refine bodyPost_ret_by (v := .tuple #[.agg #[.slice none 0 0], .int .i64 c]) (rowTmp Tryz.results14 _ _ w.heap.size 37 _ (0, 0) _ rfl (setCell_new HR2.out) Tryz.underlying37 rfl sizeTree) rfl ⟨none, 0, 0, by first | (rw [HD.out]; done) | (rw [HD.out]; rfl), by rw [HD.out]; exact TreeAt.nil _ _ _ _, ?_⟩
      exact ((HB0.out.trans (HW1.out.mono (by simp))).trans (HW2.out.mono (by have := HW1.out.size; simp at this; omega))).setCell (Nat.le_refl _) _
    | ok k out =>
      rw [hR] at hdef
      simp only [] at hdef
      have HR := toHid hR
      have hol := inflS_len hR
      clear hR
      have HFS := toHid (fun w1 h1 h2 => fromSeries_any out (by omega) w1 h1 h2)
      cases hA : refA out with
      | none =>
        rw [hA] at hdef
        have HD : Hid (A = (7, [])) := hdef
        clear hdef
        have HF2 : Hid (∀ w1, NumErrs w1 → Pow w1 → Calls Tryz.prog 38 #[.string ⟨out.toArray⟩] w1 fun r w' => (∃ t k c, r = .returned (.tuple #[.agg #[.slice t k c], .bool false])) ∧ Below w1.heap.size w1 w') := fun w1 h1 h2 => (HFS.out w1 h1 h2).mono fun r w' ⟨t, k, c, e1, _, e3⟩ => ⟨⟨t, k, c, by rw [e1, hA]; rfl⟩, e3⟩
        clear HFS hA
        go_enter Tryz.func14, Tryz.ntmps14
        go_wp2_with (first
          | (go_at_call 37; refine (sInflate_ok s 20000 hs (Nat.le_refl _) _ HE0.out.lay HR.out).mono ?_; rintro e w1 ⟨hb1, rfl⟩; have HW1 := toHid hb1; clear hb1; have HB1 : Hid (Below w.heap.size w w1) := HB0.out.trans (HW1.out.mono (by simp)))
          | (go_at_call 38; refine (HF2.out _ (HN.out.below HB1.out) (HP.out.below HB1.out)).mono ?_; rintro e w2 ⟨⟨t, kt, ct, rfl⟩, hb2⟩; have HW2 := toHid hb2; clear hb2; have HL2 : Hid (w.heap.size < w2.heap.size) := (show w.heap.size < w2.heap.size by have := HW1.out.size; have := HW2.out.size; simp at *; omega); have HR2 : Hid ((w2.alloc (.cells #[.slice t kt ct] 37 (0, 0))).heap[w.heap.size]? = some (.cells #[.slice none 0 0] 37 (0, 0))) := alloc_keeps (((HW2.out.block w.heap.size (by have := HW1.out.size; simp at this; omega)).trans (HW1.out.block w.heap.size (by simp))).trans HR0.out); have q0 : (w2.alloc (.cells #[.slice t kt ct] 37 (0, 0))).cell? ⟨w.heap.size, 0, none⟩ = some (.slice none 0 0) := (cell_of_row _ _ 0 _ _ _ HR2.out).trans rfl; have f0 : (w2.alloc (.cells #[.slice t kt ct] 37 (0, 0))).frozen? ⟨w.heap.size, 0, none⟩ = false := frozen_of_row _ _ _ _ _ HR2.out))
        refine bodyPost_ret_by (v := .tuple #[.agg #[.slice none 0 0], .int .i64 7]) (rowTmp Tryz.results14 _ _ w.heap.size 37 _ (0, 0) _ rfl (setCell_new HR2.out) Tryz.underlying37 rfl sizeTree) rfl ⟨none, 0, 0, by first | (rw [HD.out]; done) | (rw [HD.out]; rfl), by rw [HD.out]; exact TreeAt.nil _ _ _ _, ?_⟩
        exact ((HB1.out.trans (HW2.out.mono HB1.out.size)).alloc (by have := HL2.out; omega) _).setCell (Nat.le_refl _) _
      | some m =>
        rw [hA] at hdef
        have HF2 : Hid (∀ w1, NumErrs w1 → Pow w1 → Calls Tryz.prog 38 #[.string ⟨out.toArray⟩] w1 fun r w' => ∃ t k c, r = .returned (.tuple #[.agg #[.slice t k c], .bool true]) ∧ TreeAt w' (fun b => w1.heap.size ≤ b) 7 (.slice t k c) [] m ∧ Below w1.heap.size w1 w') := fun w1 h1 h2 => (HFS.out w1 h1 h2).mono fun r w' ⟨t, k, c, e1, e2, e3⟩ => ⟨t, k, c, by rw [e1, hA]; rfl, by rw [hA] at e2; exact e2, e3⟩
        clear HFS hA
        by_cases hk : (k + 7) / 8 = s.size
        · have HD : Hid (A = (0, m)) := by show _ = _; rw [hdef]; exact if_pos hk
          clear hdef
          go_enter Tryz.func14, Tryz.ntmps14
          go_wp2_with (first
            | (go_at_call 37; refine (sInflate_ok s 20000 hs (Nat.le_refl _) _ HE0.out.lay HR.out).mono ?_; rintro e w1 ⟨hb1, rfl⟩; have HW1 := toHid hb1; clear hb1; have HB1 : Hid (Below w.heap.size w w1) := HB0.out.trans (HW1.out.mono (by simp)); rw [hk])
            | (go_at_call 38; refine (HF2.out _ (HN.out.below HB1.out) (HP.out.below HB1.out)).mono ?_; rintro e w2 ⟨t, kt, ct, rfl, ht2, hb2⟩; have HW2 := toHid hb2; have HT2 := toHid ht2; clear hb2 ht2; have HL2 : Hid (w.heap.size < w2.heap.size) := (show w.heap.size < w2.heap.size by have := HW1.out.size; have := HW2.out.size; simp at *; omega); have HR2 : Hid ((w2.alloc (.cells #[.slice t kt ct] 37 (0, 0))).heap[w.heap.size]? = some (.cells #[.slice none 0 0] 37 (0, 0))) := alloc_keeps (((HW2.out.block w.heap.size (by have := HW1.out.size; simp at this; omega)).trans (HW1.out.block w.heap.size (by simp))).trans HR0.out); have q0 : (w2.alloc (.cells #[.slice t kt ct] 37 (0, 0))).cell? ⟨w.heap.size, 0, none⟩ = some (.slice none 0 0) := (cell_of_row _ _ 0 _ _ _ HR2.out).trans rfl; have f0 : (w2.alloc (.cells #[.slice t kt ct] 37 (0, 0))).frozen? ⟨w.heap.size, 0, none⟩ = false := frozen_of_row _ _ _ _ _ HR2.out))
          refine bodyPost_ret_by (v := .tuple #[.agg #[.slice t kt ct], .int .i64 0]) (rowTmp Tryz.results14 _ _ w.heap.size 37 _ (0, 0) _ rfl (setCell_new HR2.out) Tryz.underlying37 rfl sizeTree) rfl ⟨t, kt, ct, by first | (rw [HD.out]; done) | (rw [HD.out]; rfl), ?_, ?_⟩
          · rw [HD.out]
            have hsz := HW1.out.size
            simp at hsz
            exact HT2.out.keep (by simp [World.setCell]) fun b hb hlt => ⟨(Below.heap_setCell _ _ _ _ (by show b ≠ w.heap.size; omega)).trans (((Below.refl _ w2).alloc (Nat.le_refl _) _).block b hb), by omega⟩
          · exact ((HB1.out.trans (HW2.out.mono HB1.out.size)).alloc (by have := HL2.out; omega) _).setCell (Nat.le_refl _) _
        · have HD : Hid (A = (7, [])) := by show _ = _; rw [hdef]; exact if_neg hk
          have hkn : ((((k + 7) / 8 : Nat) : Int) != (s.size : Int)) = true := bne_iff_ne.2 (by omega)
          clear hdef
          obtain ⟨q, HQ⟩ := hid_intro ((k + 7) / 8)
          rw [← HQ.out] at hkn hk
          go_enter Tryz.func14, Tryz.ntmps14
          go_wp2_with (first
            | (go_at_call 37; refine (sInflate_ok s 20000 hs (Nat.le_refl _) _ HE0.out.lay HR.out).mono ?_; rintro e w1 ⟨hb1, rfl⟩; have HW1 := toHid hb1; clear hb1; have HB1 : Hid (Below w.heap.size w w1) := HB0.out.trans (HW1.out.mono (by simp)); rw [← HQ.out])
            | (go_at_call 38; refine (HF2.out _ (HN.out.below HB1.out) (HP.out.below HB1.out)).mono ?_; rintro e w2 ⟨t, kt, ct, rfl, ht2, hb2⟩; have HW2 := toHid hb2; clear hb2 ht2; have HL2 : Hid (w.heap.size < w2.heap.size) := (show w.heap.size < w2.heap.size by have := HW1.out.size; have := HW2.out.size; simp at *; omega); have HR2 : Hid ((w2.alloc (.cells #[.slice t kt ct] 37 (0, 0))).heap[w.heap.size]? = some (.cells #[.slice none 0 0] 37 (0, 0))) := alloc_keeps (((HW2.out.block w.heap.size (by have := HW1.out.size; simp at this; omega)).trans (HW1.out.block w.heap.size (by simp))).trans HR0.out); have q0 : (w2.alloc (.cells #[.slice t kt ct] 37 (0, 0))).cell? ⟨w.heap.size, 0, none⟩ = some (.slice none 0 0) := (cell_of_row _ _ 0 _ _ _ HR2.out).trans rfl; have f0 : (w2.alloc (.cells #[.slice t kt ct] 37 (0, 0))).frozen? ⟨w.heap.size, 0, none⟩ = false := frozen_of_row _ _ _ _ _ HR2.out))
          refine bodyPost_ret_by (v := .tuple #[.agg #[.slice none 0 0], .int .i64 7]) (rowTmp Tryz.results14 _ _ w.heap.size 37 _ (0, 0) _ rfl (setCell_new HR2.out) Tryz.underlying37 rfl sizeTree) rfl ⟨none, 0, 0, by first | (rw [HD.out]; done) | (rw [HD.out]; rfl), by rw [HD.out]; exact TreeAt.nil _ _ _ _, ?_⟩
          exact ((HB1.out.trans (HW2.out.mono HB1.out.size)).alloc (by have := HL2.out; omega) _).setCell (Nat.le_refl _) _
set_option maxRecDepth 8000 in
set_option maxHeartbeats 1000000 in
theorem unpack_any {er : Errs} (s : ByteArray) (w : World) (he : er.Full w) (hN : NumErrs w) (hP : Pow w) :
    Calls Tryz.prog 7 #[.string s] w fun r w' => ∃ u, r = .returned (.tuple #[u, .int .i64 ((unpA s).1 : Int)]) ∧ w'.ownsRow w.heap.size 47 3 u (unpA s).2.length (ecells (unpA s).2) ∧ Below w.heap.size w w' := by
  have HUP := toHid (unpackedP_any s w he hN hP)
  obtain ⟨hl, hf⟩ := unp_fit s
  have HF := toHid hf
  have HL := toHid hl
  clear hl hf
  unfold UpOk at HUP
  obtain ⟨A, HA⟩ := hid_intro (unpA s)
  rw [← HA.out] at HUP HF HL ⊢
  clear HA he hN hP
  go_enter Tryz.func7, Tryz.ntmps7
  go_wp2_with (first
    | (go_at_call 14; refine HUP.out.mono ?_; clear HUP; rintro e w1 ⟨t, k, c, rfl, ht, hb⟩; have HT := toHid ht; have HB := toHid hb; clear ht hb; have HEN := toHid (entries_any 7 (w1.alloc (.cells #[.slice t k c] 37 (0, 0))) _ t k c A.2 (HT.out.below ((Below.refl _ w1).alloc (Nat.le_refl _) _)) (by have := HL.out; omega) HF.out))
    | (go_at_call 15; refine HEN.out.mono ?_; clear HEN; rintro e w2 ⟨u, rfl, ho, hb2⟩; have HO := toHid ho; have HB2 := toHid hb2; clear ho hb2))
  go_ret2
  exact ⟨_, rfl, own_weaken HO.out (by simp; exact Nat.le_succ_of_le HB.out.size), HB.out.trans ((((Below.refl _ w1).alloc (Nat.le_refl _) _).trans (HB2.out.mono (by simp))).mono HB.out.size)⟩
end Go.Proofs.YtgfbbcnnmoamnaaGreatDoor.Tr

namespace Go.Proofs.YtgfbbcnnmoamnaaGreatDoor.Tr
open Go.RowKit Go.Proofs.YtgfbbcnnmoamnaaGreatDoor Go.Proofs.YtgfbbcnnmoamnaaGreatDoor.Lk

set_option maxRecDepth 8000 in
set_option maxHeartbeats 1000000 in
theorem rUnpack_any (s : ByteArray) (w : World) :
    Calls Tryz.prog 80 #[.string s] w fun r w' => ∃ u, r = .returned (.tuple #[u, .int .i64 ((unpA s).1 : Int)]) ∧ w'.ownsRow w.heap.size 47 3 u (unpA s).2.length (ecells (unpA s).2) ∧ Below w.heap.size w w' := by
  have hdef : unpA s = if 20000 < s.size then (1, []) else match inflS s.data.toList 20000 with
    | .err c => (c, [])
    | .ok k out => match refA out with
      | some m => if (k + 7) / 8 = s.size then (0, m) else (7, [])
      | none => (7, []) := rfl
  obtain ⟨A, HA⟩ := hid_intro (unpA s)
  rw [← HA.out] at hdef ⊢
  clear HA
  by_cases hm : 20000 < s.size
  · have HD : Hid (A = (1, [])) := by show _ = _; rw [hdef, if_pos hm]
    have HM := toHid (refInflate_many s 20000 (.inl hm) w)
    clear hdef hm
    go_enter Tryz.func80, Tryz.ntmps80
    go_wp2_with (go_at_call 70; refine HM.out.mono ?_; clear HM; rintro e w1 ⟨hb1, rfl⟩; have HW1 := toHid hb1; clear hb1)
    go_ret2
    exact ⟨_, by first | (rw [HD.out]; done) | (rw [HD.out]; rfl), by rw [HD.out]; exact World.ownsRow_nil _ _ _ _, HW1.out⟩
  · have hs : s.size ≤ 20000 := by omega
    rw [if_neg hm] at hdef
    have HI := toHid (refInflate_in s 20000 hs (Nat.le_refl _) w)
    clear hm
    cases hR : inflS s.data.toList 20000 with
    | err c =>
      rw [hR] at hdef HI
      have HD : Hid (A = (c, [])) := hdef
      unfold refE at HI
      simp only [] at HI
      have hc0 : c ≠ 0 := by have := inflS_err hR; omega
      have hcn : ((c : Int) != 0) = true := bne_iff_ne.2 (by omega)
      clear hdef hR hc0
      go_enter Tryz.func80, Tryz.ntmps80
      go_wp2_with (go_at_call 70; refine HI.out.mono ?_; clear HI; rintro e w1 ⟨hb1, rfl⟩; have HW1 := toHid hb1; clear hb1)
      go_ret2
      exact ⟨_, by first | (rw [HD.out]; done) | (rw [HD.out]; rfl), by rw [HD.out]; exact World.ownsRow_nil _ _ _ _, HW1.out⟩
    | ok k out =>
      rw [hR] at hdef HI
      simp only [] at hdef
      unfold refE at HI
      simp only [] at HI
      have hol := inflS_len hR
      clear hR
      have HFS := toHid (fun w1 => rRead_any out (by omega) w1)
      cases hA : refA out with
      | none =>
        rw [hA] at hdef HFS
        have HD : Hid (A = (7, [])) := hdef
        clear hdef hA
        go_enter Tryz.func80, Tryz.ntmps80
        go_wp2_with (first
          | (go_at_call 70; refine HI.out.mono ?_; clear HI; rintro e w1 ⟨hb1, rfl⟩; have HW1 := toHid hb1; clear hb1)
          | (go_at_call 139; refine (HFS.out _).mono ?_; clear HFS; rintro e w2 ⟨v2, rfl, ho2, hb2⟩; obtain ⟨a2, c2, rfl⟩ := own_shape ho2; have HW2 := toHid hb2; clear ho2 hb2))
        go_ret2
        exact ⟨_, by first | (rw [HD.out]; done) | (rw [HD.out]; rfl), by rw [HD.out]; exact World.ownsRow_nil _ _ _ _, HW1.out.trans (HW2.out.mono HW1.out.size)⟩
      | some m =>
        rw [hA] at hdef HFS
        clear hA
        by_cases hk : (k + 7) / 8 = s.size
        · have HD : Hid (A = (0, m)) := by show _ = _; rw [hdef]; exact if_pos hk
          rw [hk] at HI
          clear hdef hk
          go_enter Tryz.func80, Tryz.ntmps80
          go_wp2_with (first
            | (go_at_call 70; refine HI.out.mono ?_; clear HI; rintro e w1 ⟨hb1, rfl⟩; have HW1 := toHid hb1; clear hb1)
            | (go_at_call 139; refine (HFS.out _).mono ?_; clear HFS; rintro e w2 ⟨v2, rfl, ho2, hb2⟩; obtain ⟨a2, c2, rfl⟩ := own_shape ho2; have HW2 := toHid hb2; have HO2 := toHid ho2; clear ho2 hb2))
          go_ret2
          exact ⟨_, by first | (rw [HD.out]; done) | (rw [HD.out]; rfl), by rw [HD.out]; exact own_weaken HO2.out HW1.out.size, HW1.out.trans (HW2.out.mono HW1.out.size)⟩
        · have HD : Hid (A = (7, [])) := by show _ = _; rw [hdef]; exact if_neg hk
          have hkn : ((((k + 7) / 8 : Nat) : Int) != (s.size : Int)) = true := bne_iff_ne.2 (by omega)
          obtain ⟨q, HQ⟩ := hid_intro ((k + 7) / 8)
          rw [← HQ.out] at hkn HI
          clear hdef hk
          go_enter Tryz.func80, Tryz.ntmps80
          go_wp2_with (first
            | (go_at_call 70; refine HI.out.mono ?_; clear HI; rintro e w1 ⟨hb1, rfl⟩; have HW1 := toHid hb1; clear hb1)
            | (go_at_call 139; refine (HFS.out _).mono ?_; clear HFS; rintro e w2 ⟨v2, rfl, ho2, hb2⟩; obtain ⟨a2, c2, rfl⟩ := own_shape ho2; have HW2 := toHid hb2; clear ho2 hb2))
          go_ret2
          exact ⟨_, by first | (rw [HD.out]; done) | (rw [HD.out]; rfl), by rw [HD.out]; exact World.ownsRow_nil _ _ _ _, HW1.out.trans (HW2.out.mono HW1.out.size)⟩
end Go.Proofs.YtgfbbcnnmoamnaaGreatDoor.Tr
