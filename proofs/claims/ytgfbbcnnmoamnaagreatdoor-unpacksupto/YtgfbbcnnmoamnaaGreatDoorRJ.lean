/- The document's fixed codes. The document's lengths of a block's own codes: the head. -/
import Derived.Test.YtgfbbcnnmoamnaaGreatDoorRG
import Derived.Test.YtgfbbcnnmoamnaaGreatDoorPR
import Derived.Deep.DeepCutAuto
import Derived.Deep.CutBlock
namespace Go.Proofs.YtgfbbcnnmoamnaaGreatDoor
open Go.RowKit

theorem entCells_get : ∀ (l : List Ent) (j : Nat) (en : Ent), l[j]? = some en → (entCells l)[2 * j]? = some (.int .i64 (en.sym : Int)) ∧ (entCells l)[2 * j + 1]? = some (.string ⟨(digs en.val en.len).toArray⟩)
  | [], j, en, h => by simp at h
  | e :: l, 0, en, h => by
    have : e = en := by simpa using h
    subst this
    simp [entCells]
  | e :: l, j + 1, en, h => by
    have ih := entCells_get l j en (by simpa using h)
    have e2 : entCells (e :: l) = .int .i64 (e.sym : Int) :: .string ⟨(digs e.val e.len).toArray⟩ :: entCells l := by simp [entCells]
    rw [e2, show 2 * (j + 1) = 2 * j + 1 + 1 by omega, List.getElem?_cons_succ, List.getElem?_cons_succ, show 2 * j + 1 + 1 + 1 = 2 * j + 1 + 1 + 1 from rfl, List.getElem?_cons_succ, List.getElem?_cons_succ]
    exact ih
/-- a row of codes that was made behind the reading -/
theorem CTab.of_own {g base : Nat} {o v : Value} {l : List Ent} {w : World} (h : w.ownsRow base 352 2 v l.length (entCells l)) (hg : g < base) (ho : ∀ b, o.ownBlock = some b → b < base) : CTab g v l o w := by
  rcases h.2 with ⟨hv, h0⟩ | ⟨b, cap, cur, hv, h1, hb, h2, h3, h4, h5⟩
  · refine ⟨none, 0, by rw [hv, h0], fun j en hj => ?_⟩
    have : l = [] := List.length_eq_zero_iff.1 h0
    subst this
    simp at hj
  · refine ⟨_, cap, hv, fun j en hj => ?_⟩
    have hjl := (List.getElem?_eq_some_iff.1 hj).1
    obtain ⟨c1, c2⟩ := entCells_get l j en hj
    have key : ∀ i, i < l.length * 2 → cur[i]? = (entCells l)[i]? := fun i hi => by
      rw [← h5, List.getElem?_take_of_lt hi, Array.getElem?_toList]
    refine ⟨b, rfl, by omega, fun e => by have := ho b e; omega, lt_of_block hb, ?_, ?_⟩
    · rw [cell_of_row _ _ _ _ _ _ hb, key _ (by omega)]; exact c1
    · rw [cell_of_row _ _ _ _ _ _ hb, key _ (by omega)]; exact c2
theorem CTab.keep {g : Nat} {o v : Value} {l : List Ent} {w w' : World} (t : CTab g v l o w) (hb : Below w.heap.size w w') : CTab g v l o w' := t.step (Step.of_below hb)
/-- numbers of a row of one's own -/
theorem own_ints {w : World} {base : Nat} {v : Value} {l : List Nat} (h : w.ownsRow base 3 1 v l.length (ivals l)) (hl : 0 < l.length) : ∃ b cap, v = .slice (some ⟨b, 0, none⟩) l.length cap ∧ IntsAt w b 0 l ∧ base ≤ b := by
  obtain ⟨b, cap, rfl, _, _⟩ := int_cell h 0 hl
  exact ⟨b, cap, rfl, IntsAt.of_own h hl 0 0 l (fun j hj => by simpa using hj), (h.lt b rfl).1⟩
theorem _root_.Go.World.ownsRow.weaken2 {w : World} {B B' n z : Nat} {v : Value} {xs : List Value} {t : TypeId} (h : w.ownsRow B t z v n xs) (hB : B' ≤ B) : w.ownsRow B' t z v n xs := by
  refine ⟨h.1, ?_⟩
  rcases h.2 with hn | ⟨g, cap, cur, rfl, h1, rest⟩
  · exact .inl hn
  · exact .inr ⟨g, cap, cur, rfl, Nat.le_trans hB h1, rest⟩
set_option maxHeartbeats 1000000 in
set_option maxRecDepth 8000 in
theorem rfixed_any (w : World) :
    Calls Tryz.prog 197 #[] w fun r w' => ∃ va vb, r = .returned (.tuple #[va, vb]) ∧ w'.ownsRow w.heap.size 352 2 va (ents fixedL).length (entCells (ents fixedL)) ∧ w'.ownsRow w.heap.size 352 2 vb (ents fixedD).length (entCells (ents fixedD)) ∧ Below w.heap.size w w' := by
  have HC1 := (show Hid _ from rcodes_any fixedL (by rw [fixedL_len]; omega) fixedL_le)
  have HC2 := (show Hid _ from rcodes_any fixedD (by rw [fixedD_len]; omega) fixedD_le)
  rw [fixedL_len] at HC1
  rw [fixedD_len] at HC2
  have hgl := fixedL_get
  have hll := fixedL_len
  have hdd : fixedD = List.replicate 32 5 := rfl
  obtain ⟨FL, HFL⟩ := hid_intro fixedL
  obtain ⟨FD, HFD⟩ := hid_intro fixedD
  rw [← HFL.out] at HC1 hgl hll ⊢
  rw [← HFD.out] at HC2 hdd ⊢
  have HDD := (show Hid _ from hdd)
  have HGL := (show Hid _ from hgl)
  have HLL := (show Hid _ from hll)
  clear hgl hll hdd
  obtain ⟨i0, hi0, hz0, hz1, hz2⟩ := info_parts infoInt
  go_enter Tryz.func197, Tryz.ntmps197
  go_wp2
  go_loopw [2, 4] (fun vl vi wr => ∃ i : Nat, i ≤ 288 ∧ vi = .int .i64 i ∧ Hid (wr.ownsRow w.heap.size 3 1 vl i (ivals (FL.take i))) ∧ Below w.heap.size w wr) (fun _ vi _ => 288 - (intOf vi).toNat)
  case atStart => exact ⟨0, by omega, rfl, World.ownsRow_nil _ _ _ _, Below.refl ..⟩
  case round =>
    obtain ⟨i, hi, rfl, HO, hb⟩ := hrel
    have hbs := hb.size
    by_cases hlt : i < 288
    · have HT := (show Hid _ from take_next FL i (by rw [HLL.out]; exact hlt))
      have hg := HGL.out i hlt
      obtain ⟨n, HN⟩ := hid_intro (FL.getD i 0)
      rw [← HN.out] at HT hg
      obtain ⟨E, HE⟩ := hid_intro (ivals (FL.take i))
      rw [← HE.out] at HO
      have HT2 : Hid (ivals (FL.take (i + 1)) = E ++ [.int .i64 (n : Int)]) := by show _ = _; rw [HT.out, ivals_snoc, HE.out]
      clear HT
      have hcase : (i ≤ 143 ∧ n = 8) ∨ (144 ≤ i ∧ i ≤ 255 ∧ n = 9) ∨ (256 ≤ i ∧ i ≤ 279 ∧ n = 7) ∨ (280 ≤ i ∧ n = 8) := by
        split at hg
        · exact .inl ⟨by omega, hg⟩
        · split at hg
          · exact .inr (.inl ⟨by omega, by omega, hg⟩)
          · split at hg
            · exact .inr (.inr (.inl ⟨by omega, by omega, hg⟩))
            · exact .inr (.inr (.inr ⟨by omega, hg⟩))
      clear hg
      rcases hcase with ⟨h1, rfl⟩ | ⟨h1, h2, rfl⟩ | ⟨h1, h2, rfl⟩ | ⟨h1, rfl⟩
      all_goals
        go_wp2_with (at_builtin; refine wpList_append_lies _ rfl _ _ 87 rfl w.heap.size 3 i0 (.int .i64 0) 1 8 Tryz.underlying87 hi0 hz0 hz1 hz2 rfl (by decide) _ i E rfl (World.ownsRow.alloc HO.out _) ⟨_, 0, none⟩ 1 1 [.int .i64 _] rfl rfl (cell_one_new _ _ _) (by simp [Value.oneCell']) (by decide) (by unfold maxLen; omega) (by omega) (by simp; omega) _ rfl ?_; intro g2 cap2 w5 hown5 hg5 hat _; have HB5 := (show Hid _ from grown_below (hb.alloc (hb.size) _) (World.ownsRow.alloc HO.out _) (Nat.le_refl _) (by simp; omega) hg5); have HO5 := (show Hid _ from hown5); clear hown5 hg5 hat)
        go_roundw
        case rel => exact ⟨i + 1, by omega, by go_num, by rw [HT2.out]; exact HO5, HB5.out⟩
        case measure => simp [intOf]; omega
    · obtain rfl : i = 288 := by omega
      rw [show ((288 : Nat) : Int) = 288 from rfl]
      rw [List.take_of_length_le (by rw [HLL.out]; omega)] at HO
      go_wp2
      go_loopw [3, 6] (fun vd vi wq => ∃ i : Nat, i ≤ 32 ∧ vi = .int .i64 i ∧ Hid (wq.ownsRow wr.heap.size 3 1 vd i (ivals (List.replicate i 5))) ∧ Below wr.heap.size wr wq) (fun _ vi _ => 32 - (intOf vi).toNat)
      case atStart => exact ⟨0, by omega, rfl, World.ownsRow_nil _ _ _ _, Below.refl ..⟩
      case round =>
        obtain ⟨i, hi, rfl, HO2, hb2⟩ := hrel
        have hbs2 := hb2.size
        by_cases hlt2 : i < 32
        · obtain ⟨E, HE⟩ := hid_intro (ivals (List.replicate i 5))
          rw [← HE.out] at HO2
          have HT2 : Hid (ivals (List.replicate (i + 1) 5) = E ++ [.int .i64 5]) := by show _ = _; rw [List.replicate_succ', ivals_snoc, HE.out]; rfl
          go_wp2_with (at_builtin; refine wpList_append_lies _ rfl _ _ 87 rfl _ 3 i0 (.int .i64 0) 1 8 Tryz.underlying87 hi0 hz0 hz1 hz2 rfl (by decide) _ i E rfl (World.ownsRow.alloc HO2.out _) ⟨_, 0, none⟩ 1 1 [.int .i64 _] rfl rfl (cell_one_new _ _ _) (by simp [Value.oneCell']) (by decide) (by unfold maxLen; omega) (by omega) (by simp; omega) _ rfl ?_; intro g2 cap2 w5 hown5 hg5 hat _; have HB5 := (show Hid _ from grown_below (hb2.alloc (hb2.size) _) (World.ownsRow.alloc HO2.out _) (Nat.le_refl _) (by simp; omega) hg5); have HO5 := (show Hid _ from hown5); clear hown5 hg5 hat)
          go_roundw
          case rel => exact ⟨i + 1, by omega, by go_num, by rw [HT2.out]; exact HO5, HB5.out⟩
          case measure => simp [intOf]; omega
        · obtain rfl : i = 32 := by omega
          have hO1 := own_below HO.out hb2
          have hO2 := HO2.out
          rw [← HDD.out] at hO2
          have hl2 : FD.length = 32 := by rw [HDD.out]; simp
          rw [← HLL.out] at hO1
          rw [← hl2] at hO2
          obtain ⟨b1, cap1, e1, hI1, hb1⟩ := own_ints hO1 (by rw [HLL.out]; omega)
          obtain ⟨b2, cap2, e2, hI2, hb3⟩ := own_ints hO2 (by rw [hl2]; omega)
          rw [HLL.out] at e1
          rw [hl2] at e2
          have hB := hb.trans (hb2.mono hbs)
          have HI2 : Hid (IntsAt _ b2 0 FD) := hI2
          have HBB := (show Hid _ from hB)
          clear hO1 hO2 hl2 HO HO2 hB hb hb2 hb1 hb3
          rw [e1, e2]
          clear e1 e2
          go_wp2_with (first
            | (go_at_call 200; refine (HC1.out b1 0 cap1 _ hI1).mono ?_; rintro r w3 ⟨va, rfl, ho3, hb3⟩; clear hI1; have z3 := hb3.size; have HI3 := (show Hid (IntsAt w3 b2 0 FD) from IntsAt.keep HI2.out hb3); have HB3 := (show Hid _ from hb3); have HO3 := (show Hid (w3.ownsRow _ _ _ _ _ _) from ho3); clear hb3 ho3 HI2)
            | (go_at_call 200; refine (HC2.out b2 0 cap2 _ HI3.out).mono ?_; rintro r w4 ⟨vb, rfl, ho4, hb4⟩; have z4 := hb4.size; have HB4 := (show Hid _ from hb4); have HO4 := (show Hid (w4.ownsRow _ _ _ _ _ _) from ho4); clear hb4 ho4))
          go_ret2
          have z0 := HBB.out.size
          exact ⟨va, vb, rfl, World.ownsRow.weaken2 (own_below HO3.out HB4.out) z0, World.ownsRow.weaken2 HO4.out (by omega), HBB.out.trans ((HB3.out.trans (HB4.out.mono z3)).mono z0)⟩
end Go.Proofs.YtgfbbcnnmoamnaaGreatDoor

namespace Go.Proofs.YtgfbbcnnmoamnaaGreatDoor
open Go.RowKit

/-- the row of lengths, its length and its parts known -/
def ownR1 (s : List UInt8) (K m1 m2 u : Nat) : Option (Nat × List Nat) := rowGo (firstL s K u) s (m1 + m2) 400 (K + 3 * u) []
def ownR2 (m1 : Nat) : Option (Nat × List Nat) → Option (Nat × List Nat × List Nat)
  | none => none
  | some (k2, row) => if (row.take m1).getD 256 0 = 0 ∨ kraft (row.take m1) ≠ 32768 ∨ (kraft (row.drop m1) ≠ 32768 ∧ (row.drop m1).sum > 1) then none else some (k2, row.take m1, row.drop m1)
def ownR (s : List UInt8) (K m1 m2 u : Nat) : Option (Nat × List Nat × List Nat) :=
  if has s K (3 * u) then if kraft (firstL s K u) = 32768 then ownR2 m1 (ownR1 s K m1 m2 u) else none else none
theorem ownS_R (s : List UInt8) (k : Nat) (h : has s k 14) (h2 : ¬ (numAt s k 5 > 29 ∨ numAt s (k + 5) 5 > 29)) : ownS s k = ownR s (k + 14) (numAt s k 5 + 257) (numAt s (k + 5) 5 + 1) (numAt s (k + 10) 4 + 4) := by
  unfold ownS ownR ownR1
  rw [if_pos h, if_neg h2]
  split
  · split
    · cases rowGo (firstL s (k + 14) (numAt s (k + 10) 4 + 4)) s (numAt s k 5 + 257 + (numAt s (k + 5) 5 + 1)) 400 (k + 14 + 3 * (numAt s (k + 10) 4 + 4)) [] with
      | none => rfl
      | some p => rfl
    · rfl
  · rfl
theorem ownS_no (s : List UInt8) (k : Nat) (h : ¬ has s k 14 ∨ numAt s k 5 > 29 ∨ numAt s (k + 5) 5 > 29) : ownS s k = none := by
  unfold ownS
  by_cases h1 : has s k 14
  · rw [if_pos h1, if_pos (by rcases h with h | h; exact absurd h1 h; exact h)]
  · rw [if_neg h1]
/-- a row of numbers of whatever sign -/
def zvals (l : List Int) : List Value := l.map fun x => Value.int .i64 x
theorem zvals_snoc (l : List Int) (x : Int) : zvals (l ++ [x]) = zvals l ++ [.int .i64 x] := by simp [zvals]
theorem zvals_nat (r : List Nat) : zvals (r.map fun (x : Nat) => (x : Int)) = ivals r := by simp [zvals, ivals]
def lenOf : Value → Nat
  | .slice _ n _ => n
  | _ => 0
/-- how much of a row is still to come -/
def rowLeft (g M : Nat) (v : Value) (w : World) : Nat := match w.cell? ⟨g, 4, none⟩ with | some (.int _ x) => if x = 0 then M - lenOf v else 0 | _ => 0
section
variable {g : Nat} {s : ByteArray} {lim k : Nat} {o : Value} {out : List UInt8} {e : Nat}
theorem Flo.rowLeft {w : World} (h : Flo g s lim k o out e w) (M : Nat) (v : Value) : rowLeft g M v w = if e = 0 then M - lenOf v else 0 := by
  unfold YtgfbbcnnmoamnaaGreatDoor.rowLeft; rw [h.c4]; simp
theorem Flo.other {w w' : World} (h : Flo g s lim k o out e w) (r : Nat) (hr : r ≠ g) (ho : o.ownBlock ≠ some r) (hb : ∀ j, j ≠ r → w'.heap[j]? = w.heap[j]?) : Flo g s lim k o out e w' := by
  refine ⟨h.hs, h.hl, (hb g (fun e => hr e.symm)).trans h.blk, ⟨h.own.1, ?_⟩, h.hk, h.ho, h.he⟩
  rcases h.own.2 with hn | ⟨b, cap, cur, hv, h1, hg, rest⟩
  · exact .inl hn
  · refine .inr ⟨b, cap, cur, hv, h1, (hb b (fun e => ho ?_)).trans hg, rest⟩
    subst hv; subst e; rfl
theorem own_step {B n z : Nat} {t : TypeId} {v : Value} {xs : List Value} {w w2 : World} (h : w.ownsRow B t z v n xs) (st : Step g o o w w2) (hg : g < B) (ho : ∀ b, o.ownBlock = some b → b < B) : w2.ownsRow B t z v n xs := by
  refine ⟨h.1, ?_⟩
  rcases h.2 with hn | ⟨b, cap, cur, rfl, h1, hb, rest⟩
  · exact .inl hn
  · exact .inr ⟨b, cap, cur, rfl, h1, (st.block b (lt_of_block hb) (by omega) (fun e => by have := ho b e; omega)).trans hb, rest⟩
theorem zv_cell {w : World} {base : Nat} {v : Value} {l : List Int} {t : TypeId} (h : w.ownsRow base t 1 v l.length (zvals l)) (j : Nat) (hj : j < l.length) :
    ∃ b cap, v = .slice (some ⟨b, 0, none⟩) l.length cap ∧ l.length ≤ cap ∧ w.cell? ⟨b, j, none⟩ = some (.int .i64 (l.getD j 0)) := by
  rcases h.2 with ⟨_, h0⟩ | ⟨b, cap, cur, rfl, h1, hg, h2, h3, h4, h5⟩
  · omega
  · refine ⟨b, cap, rfl, h2, ?_⟩
    have e2 : cur.toList[j]? = (cur.toList.take (l.length * 1))[j]? := by rw [List.getElem?_take_of_lt (by omega)]
    rw [cell_of_row _ _ _ _ _ _ hg, ← Array.getElem?_toList, e2, h5]
    simp [zvals, hj]
theorem zv_cell' {w : World} {base N : Nat} {v : Value} {l : List Int} {t : TypeId} (hl : l.length = N) (h : w.ownsRow base t 1 v N (zvals l)) (j : Nat) (hj : j < N) :
    ∃ b cap, v = .slice (some ⟨b, 0, none⟩) N cap ∧ N ≤ cap ∧ w.cell? ⟨b, j, none⟩ = some (.int .i64 (l.getD j 0)) := by
  subst hl; exact zv_cell h j hj
theorem Flo.rowgrown {w0 w w2 w3 : World} {v : Value} {B n : Nat} {xs : List Value} {t : TypeId} (h : Flo g s lim k o out e w) (st : Step g o o w0 w) (hB : w0.heap.size ≤ B) (hg0 : g < w0.heap.size) (ho0 : ∀ b, o.ownBlock = some b → b < w0.heap.size)
    (hown : w.ownsRow B t 1 v n xs) (hb : Below w.heap.size w w2) (hg3 : w2.grownBy w3 v.ownBlock) : Flo g s lim k o out e w3 ∧ Step g o o w0 w3 := by
  have hlow : ∀ j, j < w0.heap.size → w3.heap[j]? = w.heap[j]? := fun j hj => by
    have hjw : j < w.heap.size := Nat.lt_of_lt_of_le hj st.size
    exact (hg3.block j (Nat.lt_of_lt_of_le hjw hb.size) (fun e => by have := (hown.lt j e.symm).1; omega)).trans (hb.block j hjw)
  have hsz := Nat.le_trans hb.size hg3.size
  refine ⟨⟨h.hs, h.hl, (hlow g hg0).trans h.blk, ⟨h.own.1, ?_⟩, h.hk, h.ho, h.he⟩, ?_⟩
  · rcases h.own.2 with hn | ⟨b, cap, cur, hv, h1, hgb, rest⟩
    · exact .inl hn
    · exact .inr ⟨b, cap, cur, hv, h1, (hlow b (ho0 b (by subst hv; rfl))).trans hgb, rest⟩
  · exact ⟨(hg3.os.trans hb.os).trans st.os, (hg3.tape.trans hb.tape).trans st.tape, (hg3.output.trans hb.output).trans st.output, Nat.le_trans st.size hsz, fun j hj hg ho => (hlow j hj).trans (st.block j hj hg ho), st.moved⟩
theorem sum_take_le (l : List Nat) (h : ∀ x ∈ l, x ≤ 15) : ∀ i, (l.take i).sum ≤ 15 * i := by
  induction l with
  | nil => intro i; simp
  | cons a l ih =>
    intro i
    cases i with
    | zero => simp
    | succ i =>
      have h1 := ih (fun x hx => h x (by simp [hx])) i
      have h2 := h a (by simp)
      simp only [List.take_succ_cons, List.sum_cons]; omega
theorem errN_cases (s : ByteArray) (k n e : Nat) (he : e = 0 ∨ e = 5) : (k + n ≤ 8 * s.size ∧ errN s k n e = e) ∨ (¬ k + n ≤ 8 * s.size ∧ errN s k n e = 5) := by
  unfold errN orBad
  by_cases h : k + n ≤ 8 * s.size
  · rw [if_pos h]; exact .inl ⟨h, rfl⟩
  · rw [if_neg h]; right; refine ⟨h, ?_⟩; rcases he with rfl | rfl <;> rfl
set_option maxHeartbeats 1000000 in
set_option maxRecDepth 8000 in
theorem rlengths_any (w : World) (h : Flo g s lim k o out 0 w) :
    Calls Tryz.prog 199 #[.pointer (some ⟨g, 0, none⟩)] w fun r w' => Step g o o w w' ∧
      ((∃ k2 l d b cap1 cap2, ownS s.data.toList k = some (k2, l, d) ∧ r = .returned (.tuple #[.slice (some ⟨b, 0, none⟩) l.length cap1, .slice (some ⟨b, l.length, none⟩) d.length cap2]) ∧ IntsAt w' b 0 l ∧ IntsAt w' b l.length d ∧ Flo g s lim k2 o out 0 w') ∨
       (ownS s.data.toList k = none ∧ ∃ va vb k2, r = .returned (.tuple #[va, vb]) ∧ Flo g s lim k2 o out 5 w')) := by
  obtain ⟨R, HR⟩ := hid_intro (ownS s.data.toList k)
  have HNO := (show Hid _ from ownS_no s.data.toList k)
  have HYES := (show Hid _ from ownS_R s.data.toList k)
  rw [← HR.out] at HNO HYES ⊢
  have hss : s.data.toList.length = s.size := by simp
  obtain ⟨L, HL⟩ := hid_intro s.data.toList
  rw [← HL.out] at hss HNO HYES
  have hkk := h.hk
  have l1 := numAt_lt L k 5
  have l2 := numAt_lt L (min (k + 5) (8 * s.size)) 5
  have l3 := numAt_lt L (min (min (k + 5) (8 * s.size) + 5) (8 * s.size)) 4
  obtain ⟨n1, HN1⟩ := hid_intro (numAt L k 5)
  obtain ⟨n2, HN2⟩ := hid_intro (numAt L (min (k + 5) (8 * s.size)) 5)
  obtain ⟨n3, HN3⟩ := hid_intro (numAt L (min (min (k + 5) (8 * s.size) + 5) (8 * s.size)) 4)
  rw [← HN1.out] at l1
  rw [← HN2.out] at l2
  rw [← HN3.out] at l3
  go_enter Tryz.func199, Tryz.ntmps199
  go_upto_region 4 with (first
    | (go_at_call 194; refine (rnumber_any 5 (by omega) _ h).mono ?_; rintro r w1 ⟨rfl, hf1, st1⟩; rw [← HL.out, ← HN1.out]; clear h)
    | (go_at_call 194; refine (rnumber_any 5 (by omega) _ hf1).mono ?_; rintro r w2 ⟨rfl, hf2, st2⟩; rw [← HL.out, ← HN2.out]; clear hf1)
    | (go_at_call 194; refine (rnumber_any 4 (by omega) _ hf2).mono ?_; rintro r w3 ⟨rfl, hf3, st3⟩; rw [← HL.out, ← HN3.out]; clear hf2))
  have HST : Hid (Step g o o w w3) := (st1.trans st2).trans st3
  have hhead : ∃ K3 e3, Flo g s lim K3 o out e3 w3 ∧ ((e3 = 0 ∧ k + 14 ≤ 8 * s.size ∧ K3 = k + 14 ∧ n2 = numAt L (k + 5) 5 ∧ n3 = numAt L (k + 10) 4) ∨ (e3 = 5 ∧ ¬ k + 14 ≤ 8 * s.size)) := by
    refine ⟨_, _, hf3, ?_⟩
    have a3 := HN2.out
    have a4 := HN3.out
    rcases errN_cases s k 5 0 (.inl rfl) with ⟨q1, q2⟩ | ⟨q1, q2⟩
    · rw [q2]
      rw [Nat.min_eq_left q1] at a3 a4 ⊢
      rcases errN_cases s (k + 5) 5 0 (.inl rfl) with ⟨q3, q4⟩ | ⟨q3, q4⟩
      · rw [q4]
        rw [Nat.min_eq_left q3] at a4 ⊢
        rcases errN_cases s (k + 5 + 5) 4 0 (.inl rfl) with ⟨q5, q6⟩ | ⟨q5, q6⟩
        · left; exact ⟨q6, by omega, by omega, a3, by rw [a4]⟩
        · right; exact ⟨q6, by omega⟩
      · rw [q4]
        rcases errN_cases s (min (k + 5 + 5) (8 * s.size)) 4 5 (.inr rfl) with ⟨q5, q6⟩ | ⟨q5, q6⟩
        · right; exact ⟨q6, by omega⟩
        · right; exact ⟨q6, by omega⟩
    · rw [q2]
      rcases errN_cases s (min (k + 5) (8 * s.size)) 5 5 (.inr rfl) with ⟨q3, q4⟩ | ⟨q3, q4⟩
      · rw [q4]
        rcases errN_cases s (min (min (k + 5) (8 * s.size) + 5) (8 * s.size)) 4 5 (.inr rfl) with ⟨q5, q6⟩ | ⟨q5, q6⟩
        · right; exact ⟨q6, by omega⟩
        · right; exact ⟨q6, by omega⟩
      · rw [q4]
        rcases errN_cases s (min (min (k + 5) (8 * s.size) + 5) (8 * s.size)) 4 5 (.inr rfl) with ⟨q5, q6⟩ | ⟨q5, q6⟩
        · right; exact ⟨q6, by omega⟩
        · right; exact ⟨q6, by omega⟩
  clear hf3 st1 st2 st3 HN2 HN3
  obtain ⟨K3, e3, hf3, hh3⟩ := hhead
  have hE4 : ∃ e4, orBad e3 = e4 ∧ e4 = 5 := by
    rcases hh3 with ⟨rfl, _⟩ | ⟨rfl, _⟩
    · exact ⟨5, rfl, rfl⟩
    · exact ⟨5, rfl, rfl⟩
  have HH3 := (show Hid ((e3 = 0 ∧ k + 14 ≤ 8 * s.size ∧ K3 = k + 14 ∧ n2 = numAt L (k + 5) 5 ∧ n3 = numAt L (k + 10) 4) ∨ (e3 = 5 ∧ ¬ k + 14 ≤ 8 * s.size)) from hh3)
  have HE4 : Hid (orBad e3 = 5) := by obtain ⟨_, h1, h2⟩ := hE4; rw [h1, h2]; exact (rfl : (5 : Nat) = 5)
  have HF3 := (show Hid (Flo g s lim K3 o out e3 w3) from hf3)
  clear hh3 hE4 hf3
  have l1' : n1 < 32 := l1
  have l2' : n2 < 32 := l2
  have l3' : n3 < 16 := l3
  clear l1 l2 l3
  obtain ⟨B, HB⟩ := hid_intro (decide (29 < n1 ∨ 29 < n2))
  go_cut [37] (fun s37 wx => s37 = .bool B ∧ wx = w3)
  case first =>
    by_cases h29 : 29 < n1
    · have hd : Hid (B = true) := by rw [HB.out]; exact decide_eq_true (.inl h29)
      have hi1 : (286 : Int) < (n1 : Int) + 257 := by omega
      go_wp2
      go_meet
      exact ⟨by rw [hd.out], rfl⟩
    · by_cases h292 : 29 < n2
      · have hd : Hid (B = true) := by rw [HB.out]; exact decide_eq_true (.inr h292)
        have hi1 : ¬ (286 : Int) < (n1 : Int) + 257 := by omega
        have hi2 : (30 : Int) < (n2 : Int) + 1 := by omega
        go_wp2
        go_meet
        exact ⟨by rw [hd.out], rfl⟩
      · have hd : Hid (B = false) := by rw [HB.out]; exact decide_eq_false (by omega)
        have hi1 : ¬ (286 : Int) < (n1 : Int) + 257 := by omega
        have hi2 : ¬ (30 : Int) < (n2 : Int) + 1 := by omega
        go_wp2
        go_meet
        exact ⟨by rw [hd.out], rfl⟩
  case rest =>
  obtain ⟨rfl, rfl⟩ := hcut
  go_upto_if 37 with fail
  go_cut [] (fun wx => ∃ e4, Flo g s lim K3 o out e4 wx ∧ Step g o o w wx ∧ ((e4 = 0 ∧ k + 14 ≤ 8 * s.size ∧ K3 = k + 14 ∧ Hid (R = ownR L (k + 14) (n1 + 257) (n2 + 1) (n3 + 4))) ∨ (e4 = 5 ∧ Hid (R = none))))
  case first =>
    cases B with
    | true =>
      have h29 : 29 < n1 ∨ 29 < n2 := of_decide_eq_true HB.out.symm
      have HN : Hid (R = none) := by
        refine HNO.out ?_
        rcases HH3.out with ⟨_, h14, _, q1, _⟩ | ⟨_, h14⟩
        · rw [← HN1.out, ← q1]; exact .inr h29
        · exact .inl (by unfold has; omega)
      clear h29
      go_wp2_with (go_at_call 195; refine (wrong_any _ HF3.out).mono ?_; rintro r w4 ⟨rfl, hf4, st4⟩)
      go_meet
      rw [HE4.out] at hf4
      exact ⟨5, hf4, HST.out.trans st4, .inr ⟨rfl, HN⟩⟩
    | false =>
      have h29 : ¬ (29 < n1 ∨ 29 < n2) := of_decide_eq_false HB.out.symm
      have hres : (e3 = 0 ∧ k + 14 ≤ 8 * s.size ∧ K3 = k + 14 ∧ Hid (R = ownR L (k + 14) (n1 + 257) (n2 + 1) (n3 + 4))) ∨ (e3 = 5 ∧ Hid (R = none)) := by
        rcases HH3.out with ⟨q0, h14, q3, q1, q2⟩ | ⟨q0, h14⟩
        · left
          refine ⟨q0, h14, q3, ?_⟩
          show _ = _
          rw [HYES.out (by unfold has; omega) (by rw [← HN1.out, ← q1]; exact h29), ← HN1.out, ← q1, ← q2]
        · right; exact ⟨q0, HNO.out (.inl (by unfold has; omega))⟩
      have HRES := (show Hid _ from hres)
      clear hres h29
      go_wp2
      go_meet
      exact ⟨e3, HF3.out, HST.out, HRES.out⟩
  case rest =>
  clear HST HF3 HH3 HE4 HB HNO HYES HN1
  obtain ⟨e4, hf4, st4, hh4⟩ := hcut
  have HF4 := (show Hid (Flo g s lim K3 o out e4 _) from hf4)
  have HST4 := (show Hid (Step g o o w _) from st4)
  have HH4 := (show Hid _ from hh4)
  clear hf4 st4 hh4
  have mk := fun w => make_int 19 19 rfl (by omega) w
  go_wp2
  obtain ⟨S0, HS0⟩ := hid_intro wc.heap.size
  obtain ⟨X, HX⟩ : ∃ X, Hid (X = (wc.alloc (.cells (rowi order19) 3)).alloc (.cells (rowi (List.replicate 19 0)) 3)) := ⟨_, rfl⟩
  have hX : ((wc.alloc (.cells #[.int .i64 16, .int .i64 17, .int .i64 18, .int .i64 0, .int .i64 8, .int .i64 7, .int .i64 9, .int .i64 6, .int .i64 10, .int .i64 5, .int .i64 11, .int .i64 4, .int .i64 12, .int .i64 3, .int .i64 13, .int .i64 2, .int .i64 14, .int .i64 1, .int .i64 15] 3)).alloc (.cells (rowi [0, 0, 0, 0, 0, 0, 0, 0, 0, 0, 0, 0, 0, 0, 0, 0, 0, 0, 0]) 3)) = X := by rw [HX.out]; rfl
  rw [hX, ← HS0.out]
  clear hX mk
  have hx0 : X.heap[S0]? = some (.cells (rowi order19) 3 (0, 0)) := by rw [HX.out, HS0.out]; exact alloc_keeps (heap_alloc_new wc _)
  have hx1 : X.heap[S0 + 1]? = some (.cells (rowi (List.replicate 19 0)) 3 (0, 0)) := by
    rw [HX.out, HS0.out]
    have := heap_alloc_new (wc.alloc (.cells (rowi order19) 3)) (.cells (rowi (List.replicate 19 0)) 3)
    simpa using this
  have hfx : Flo g s lim K3 o out e4 X := by rw [HX.out]; exact (HF4.out.alloc _).alloc _
  have stx : Step g o o w X := by rw [HX.out]; exact (HST4.out.alloc _).alloc _
  have HG0 : Hid (w.heap.size ≤ S0 ∧ g < S0 ∧ ∀ b, o.ownBlock = some b → b < S0) := by rw [HS0.out]; exact ⟨HST4.out.size, HF4.out.lt, fun b hb => (HF4.out.own.lt b hb).2⟩
  clear HX HS0 HF4 HST4
  go_loopw [9] (fun vi wr => ∃ (i kk ee : Nat) (L1 : List Nat), i ≤ n3 + 4 ∧ vi = .int .i64 i ∧ wr.heap[S0]? = some (.cells (rowi order19) 3 (0, 0)) ∧ wr.heap[S0 + 1]? = some (.cells (rowi L1) 3 (0, 0)) ∧ L1.length = 19 ∧ Hid (∀ x ∈ L1, x ≤ 15) ∧ Flo g s lim kk o out ee wr ∧ Step g o o w wr ∧ Hid ((ee = 0 ∧ kk = k + 14 + 3 * i ∧ L1 = firstL L (k + 14) i ∧ Hid (R = ownR L (k + 14) (n1 + 257) (n2 + 1) (n3 + 4))) ∨ (ee = 5 ∧ Hid (R = none)))) (fun vi _ => n3 + 4 - (intOf vi).toNat)
  case atStart =>
    refine ⟨0, K3, e4, List.replicate 19 0, by omega, rfl, hx0, hx1, by simp, fun x hx => by have := List.eq_of_mem_replicate hx; omega, hfx, stx, ?_⟩
    rcases HH4.out with ⟨h1, h2, h3, h4⟩ | h1
    · exact .inl ⟨h1, by omega, rfl, h4⟩
    · exact .inr h1
  case round =>
    clear hx0 hx1 hfx stx HH4
    obtain ⟨i, kk, ee, L1, hi, rfl, hw0, hw1, hl1, H15, hF, st, HD⟩ := hrel
    by_cases hlt : i < n3 + 4
    · have lx := numAt_lt L kk 3
      obtain ⟨x, Hx⟩ := hid_intro (numAt L kk 3)
      rw [← Hx.out] at lx
      have ho19 := order19_lt i (by omega)
      have hcq := rowi_cell i (show wr.drew.heap[S0]? = _ from hw0) (by simp [order19]; omega)
      obtain ⟨q, Hq⟩ := hid_intro (order19.getD i 0)
      rw [← Hq.out] at ho19 hcq
      have b1 : (i : Int) < 19 := by omega
      have b2 : (q : Int) < 19 := by omega
      have b3 : (i : Int) < (n3 : Int) + 4 := by omega
      have HF : Hid (Flo g s lim kk o out ee wr.drew) := hF.drew
      have HQ : Hid (∃ kk' ee', Flo g s lim kk' o out ee' wr ∧ True) := ⟨_, _, hF, trivial⟩
      have HNX : Hid (∀ kk' ee', kk' = min (kk + 3) (8 * s.size) → ee' = errN s kk 3 ee → Hid ((ee' = 0 ∧ kk' = k + 14 + 3 * (i + 1) ∧ L1.set q x = firstL L (k + 14) (i + 1) ∧ Hid (R = ownR L (k + 14) (n1 + 257) (n2 + 1) (n3 + 4))) ∨ (ee' = 5 ∧ Hid (R = none)))) := by
        intro kk' ee' h1 h2
        rcases HD.out with ⟨rfl, q2, q3, q4⟩ | ⟨rfl, q2⟩
        · rcases errN_cases s kk 3 0 (.inl rfl) with ⟨r1, r2⟩ | ⟨r1, r2⟩
          · left
            refine ⟨by rw [h2, r2], by rw [h1]; omega, ?_, q4⟩
            rw [firstL, ← q3, Hq.out, Hx.out, q2]
          · right
            refine ⟨by rw [h2, r2], ?_⟩
            show _ = _
            rw [q4.out]
            unfold ownR
            rw [if_neg (by unfold has; omega)]
        · rcases errN_cases s kk 3 5 (.inr rfl) with ⟨r1, r2⟩ | ⟨r1, r2⟩
          · right; exact ⟨by rw [h2, r2], q2⟩
          · right; exact ⟨by rw [h2, r2], q2⟩
      have H15b : Hid (∀ y ∈ L1.set q x, y ≤ 15) := fun y hy => by
        rcases List.mem_or_eq_of_mem_set hy with h | h
        · exact H15.out y h
        · have : x < 8 := lx
          omega
      have hlset : (L1.set q x).length = 19 := by simp [hl1]
      clear HQ hF HD
      go_wp2
      go_region_with (go_at_call 194; refine Calls.mono (rnumber_any 3 (by omega) _ HF.out) ?_; rintro e w3 ⟨rfl, hf3, st3⟩; rw [← HL.out, ← Hx.out]; have hs3 := (st3.block (S0 + 1) (lt_of_block hw1) (by have := HG0.out; omega) (fun e => by have := HG0.out.2.2 _ e; omega)).trans hw1; have hs0 := (st3.block S0 (lt_of_block hw0) (by have := HG0.out; omega) (fun e => by have := HG0.out.2.2 _ e; omega)).trans hw0; have hc3 := rowi_cell q hs3 (by rw [hl1]; omega); have hff3 := frozen_of_row w3 (S0 + 1) q _ _ hs3; have hcq3 := rowi_cell i hs0 (by simp [order19]; omega); rw [← Hq.out] at hcq3)
      all_goals
        go_wp2
        go_roundw
        case rel => exact ⟨i + 1, _, _, L1.set q x, by omega, by go_num, (heap_setCell_other _ _ _ _ (by simp)).trans hs0, rowi_step x rfl hs3, hlset, H15b, hf3.other (S0 + 1) (by have := HG0.out; omega) (fun e => by have := HG0.out.2.2 _ e; omega) (fun j hj => heap_setCell_other _ _ _ _ hj), (st.drew.trans st3).row (by have := HG0.out; omega) _ _, HNX.out _ _ rfl rfl⟩
        case measure => simp [intOf]; omega
    · obtain rfl : i = n3 + 4 := by omega
      have HFU := (show Hid _ from rfull_any L1 (by omega) H15.out (S0 + 1) 0 19 wr (IntsAt.of_row hw1))
      rw [hl1] at HFU
      have HC := (show Hid _ from rcodes_any L1 (by omega) H15.out (S0 + 1) 0 19 wr (IntsAt.of_row hw1))
      rw [hl1] at HC
      have hhas : kk = k + 14 + 3 * (n3 + 4) → has L (k + 14) (3 * (n3 + 4)) := fun e => by have := hF.hk; unfold has; omega
      have HHAS := (show Hid _ from hhas)
      have HW1 := (show Hid _ from hw1)
      have h4 := hF.c4
      have HFl : Hid (Flo g s lim kk o out ee wr) := hF
      have HSt : Hid (Step g o o w wr) := st
      clear hhas hw1 hw0 hF st
      obtain ⟨Q, HQ⟩ := hid_intro (decide (kraft L1 = 32768))
      rw [← HQ.out] at HFU
      have HBAD : Hid (Q = false ∨ ee = 5 → R = none ∧ orBad ee = 5) := by
        intro hh
        rcases HD.out with ⟨q1, q2, q3, q4⟩ | ⟨q1, q2⟩
        · refine ⟨?_, by rw [q1]; rfl⟩
          rcases hh with hh | hh
          · rw [hh] at HQ
            rw [q4.out]
            unfold ownR
            rw [if_pos (HHAS.out q2), ← q3, if_neg (of_decide_eq_false HQ.out.symm)]
          · omega
        · exact ⟨q2, by rw [q1]; rfl⟩
      have HGOOD : Hid (Q = true → ee = 0 → kraft L1 = 32768 ∧ kk = k + 14 + 3 * (n3 + 4) ∧ R = ownR2 (n1 + 257) (rowGo L1 L (n1 + 257 + (n2 + 1)) 400 kk [])) := by
        intro hq he
        rw [hq] at HQ
        have hkr := of_decide_eq_true HQ.out.symm
        rcases HD.out with ⟨q1, q2, q3, q4⟩ | ⟨q1, q2⟩
        · refine ⟨hkr, q2, ?_⟩
          rw [q4.out]
          unfold ownR ownR1
          rw [if_pos (HHAS.out q2), ← q3, if_pos hkr, q2]
        · omega
      have hee : ee = 0 ∨ ee = 5 := by
        rcases HD.out with ⟨q1, _⟩ | ⟨q1, _⟩
        · exact .inl q1
        · exact .inr q1
      clear HD HHAS
      cases Q with
      | false =>
        obtain ⟨hR, hO⟩ := HBAD.out (.inl rfl)
        have HRR := (show Hid _ from hR)
        have HOO := (show Hid _ from hO)
        clear hR hO hee HBAD HGOOD
        go_wp2_with (first
          | (go_at_call 246; refine Calls.mono HFU.out ?_; rintro r w5 ⟨rfl, hw5⟩; rw [hw5]; clear hw5)
          | (go_at_call 195; refine (wrong_any _ HFl.out).mono ?_; rintro r w6 ⟨rfl, hf6, st6⟩; rw [HOO.out] at hf6))
        go_ret2
        exact ⟨HSt.out.trans st6, .inr ⟨HRR.out, _, _, _, rfl, hf6⟩⟩
      | true =>
        rcases hee with rfl | rfl
        · go_wp2_with (first
            | (go_at_call 246; refine Calls.mono HFU.out ?_; rintro r w5 ⟨rfl, hw5⟩; rw [hw5]; clear hw5)
            | (go_at_call 200; refine Calls.mono HC.out ?_; rintro r w6 ⟨vc, rfl, ho6, hb6⟩; clear HC))
          have hgd := HGOOD.out trivial trivial
          have HKR : Hid (kraft L1 ≤ 32768) := by show _ ≤ _; rw [hgd.1]; exact Nat.le_refl _
          have hR := hgd.2.2
          obtain ⟨T, HT⟩ := hid_intro (rowGo L1 L (n1 + 257 + (n2 + 1)) 400 kk [])
          rw [← HT.out] at hR
          have HRT := (show Hid (R = ownR2 (n1 + 257) T) from hR)
          have HCT : Hid (CTab g vc (ents L1) o w6) := CTab.of_own ho6 HFl.out.lt (fun b hb => (HFl.out.own.lt b hb).2)
          have HST6 : Hid (Step g o o w w6) := HSt.out.trans (Step.of_below hb6)
          have hf6 := HFl.out.below hb6
          have HG6 : Hid (w.heap.size ≤ w6.heap.size ∧ g < w6.heap.size ∧ ∀ b, o.ownBlock = some b → b < w6.heap.size) := ⟨HST6.out.size, hf6.lt, fun b hb => (hf6.own.lt b hb).2⟩
          obtain ⟨i0, hi0, hz0, hz1, hz2⟩ := info_parts infoInt
          have HM : Hid (((n1 : Int) + 257) + ((n2 : Int) + 1) = ((n1 + 257 + (n2 + 1) : Nat) : Int)) := by show _ = _; omega
          clear HFU HQ HBAD HGOOD hgd hR hb6 ho6 HFl HSt HW1 h4 hi hlt HG0
          go_loopw [12] (fun v wq => ∃ (f k' e N : Nat) (xs : List Int), Hid (xs.length = N) ∧ N ≤ 460 ∧ Hid (wq.ownsRow w6.heap.size 3 1 v N (zvals xs)) ∧ Flo g s lim k' o out e wq ∧ Step g o o w6 wq ∧ ((e = 0 ∧ ∃ r : List Nat, Hid (xs = r.map fun (x : Nat) => (x : Int)) ∧ Hid (N = r.length) ∧ 400 ≤ f + N ∧ Hid (∀ x ∈ r, x ≤ 15) ∧ Hid (T = rowGo L1 L (n1 + 257 + (n2 + 1)) f k' r)) ∨ (e = 5 ∧ Hid (T = none)))) (fun v wq => rowLeft g (n1 + 257 + (n2 + 1)) v wq)
          case atStart => exact ⟨400, kk, 0, 0, [], rfl, by simp, World.ownsRow_nil _ _ _ _, hf6, Step.refl .., .inl ⟨rfl, [], rfl, rfl, by simp, fun x hx => by simp at hx, HT⟩⟩
          case round =>
            clear hf6
            obtain ⟨f, k', e, N, xs, HXN, hxl, HO, hF, st, hcase⟩ := hrel
            obtain ⟨ao, cap, rfl⟩ := own_shape HO.out
            have h4 := hF.c4
            have hrl := hF.rowLeft (n1 + 257 + (n2 + 1)) (.slice ao N cap)
            have HRL := (show Hid _ from hrl)
            clear hrl
            rcases hcase with ⟨rfl, r, HXR, HLR, hf, H15r, HTr⟩ | ⟨rfl, HTN⟩
            · by_cases hlt : N < n1 + 257 + (n2 + 1)
              · have hlti : (N : Int) < (n1 : Int) + 257 + ((n2 : Int) + 1) := by omega
                obtain ⟨f, rfl⟩ : ∃ f', f = f' + 1 := ⟨f - 1, by omega⟩
                go_upto_block 4 with (go_at_call 244; refine (rsymbol_any L1 (by omega) H15.out HKR.out vc _ hF (HCT.out.step st)).mono ?_; rintro rv w7 ⟨st7, hc7⟩; rw [← HL.out] at hc7; obtain ⟨xv, k2, e2, rfl, hf7, hx7⟩ : ∃ (xv : Int) (k2 e2 : Nat), rv = .returned (.int .i64 xv) ∧ Flo g s lim k2 o out e2 w7 ∧ ((e2 = 0 ∧ ∃ x : Nat, xv = (x : Int) ∧ dec L1 L k' = some (x, k2)) ∨ (e2 = 5 ∧ xv = -1 ∧ dec L1 L k' = none)) := (by rcases hc7 with ⟨x, k2, a1, a2, a3⟩ | ⟨a1, a2, k2, a3⟩; exact ⟨_, k2, 0, a2, a3, .inl ⟨rfl, x, rfl, a1⟩⟩; exact ⟨_, k2, 5, a2, a3, .inr ⟨rfl, rfl, a1⟩⟩); clear hc7)
                have HR7 : Hid (w7.ownsRow w6.heap.size 3 1 (Value.slice ao N cap) N (zvals xs)) := own_step HO.out st7 HG6.out.2.1 HG6.out.2.2
                have HS7 := (show Hid (Step g o o w6 w7) from st.trans st7)
                have h47 := hf7.c4
                have hlL : ∀ x k2, dec L1 L k' = some (x, k2) → x < 19 := fun x k2 hd => by have := dec_lt hd; omega
                have HLL := (show Hid _ from hlL)
                clear hlL HO hF st h4 st7
                go_cut [14, 15] (fun s14 s15 wx => ∃ (wh : Int) (n k3 e3 : Nat), s14 = .int .i64 wh ∧ s15 = .int .i64 (n : Int) ∧ n ≤ 138 ∧ Hid (wx.ownsRow w6.heap.size 3 1 (Value.slice ao N cap) N (zvals xs)) ∧ Flo g s lim k3 o out e3 wx ∧ Step g o o w6 wx ∧ ((e3 = 0 ∧ ∃ y : Nat, wh = (y : Int) ∧ Hid (rowStep L1 L k' r = some (y, n, k3))) ∨ (e3 = 5 ∧ Hid (rowStep L1 L k' r = none))))
                case first =>
                  rcases hx7 with ⟨rfl, x, rfl, hd⟩ | ⟨rfl, rfl, hd⟩
                  · have hx19 := HLL.out x k2 hd
                    by_cases h16 : x < 16
                    · have HS1 : Hid (rowStep L1 L k' r = some (x, 1, k2)) := by show _ = _; simp only [rowStep, hd]; rw [if_pos h16]
                      clear hd
                      go_wp2
                      go_meet
                      exact ⟨x, 1, k2, 0, rfl, rfl, by omega, HR7, hf7, HS7.out, .inl ⟨rfl, x, rfl, HS1⟩⟩
                    · have HSB := (show Hid _ from rowStep_big (row := r) hd h16)
                      have h16i : ¬ (x : Int) < 16 := by omega
                      by_cases hx16 : x = 16
                      · clear hd
                        have lz := numAt_lt L k2 2
                        obtain ⟨z, HZ⟩ := hid_intro (numAt L k2 2)
                        have HSB2 : Hid (rowStep L1 L k' r = if r = [] then none else if has L k2 2 then some (r.getD (r.length - 1) 0, 3 + z, k2 + 2) else none) := by
                          show _ = _
                          rw [HSB.out, HZ.out, hx16]
                          by_cases hr : r = []
                          · simp [hr]
                          · simp [hr, tspan]
                        rw [← HZ.out] at lz
                        have lz4 : z < 4 := lz
                        have hxb : ((x : Int) == 16) = true := by simp; omega
                        clear HSB lz hx16 h16 hx19
                        by_cases h0 : N = 0
                        · have HN : Hid (rowStep L1 L k' r = none) := by
                            show _ = _
                            rw [HSB2.out, if_pos (List.length_eq_zero_iff.1 (by have := HLR.out; omega))]
                          have hb0 : ((N : Int) == 0) = true := beq_iff_eq.2 (by omega)
                          clear h0 HSB2
                          go_wp2_with (first
                            | (go_at_call 194; refine (rnumber_any 2 (by omega) _ hf7).mono ?_; rintro rv w8 ⟨rfl, hf8, st8⟩; rw [← HL.out, ← HZ.out])
                            | (go_at_call 195; refine (wrong_any _ hf8).mono ?_; rintro rv w9 ⟨rfl, hf9, st9⟩))
                          go_meet
                          have e9 : orBad (errN s k2 2 0) = 5 := by rcases errN_cases s k2 2 0 (.inl rfl) with ⟨_, q⟩ | ⟨_, q⟩ <;> (rw [q]; rfl)
                          rw [e9] at hf9
                          exact ⟨0, 3 + z, _, 5, rfl, by go_num, by omega, own_step HR7.out (st8.trans st9) HG6.out.2.1 HG6.out.2.2, hf9, HS7.out.trans (st8.trans st9), .inr ⟨rfl, HN⟩⟩
                        · have hb0 : ((N : Int) == 0) = false := beq_eq_false_iff_ne.2 (by omega)
                          obtain ⟨bb, cap', hv', hcap, hcell0⟩ := zv_cell' HXN.out HR7.out (N - 1) (by omega)
                          injection hv' with hv1 hv2 hv3
                          subst hv1
                          have hz1' : (0 : Int) ≤ (N : Int) - 1 := by omega
                          have hz2' : (N : Int) - 1 < (N : Int) := by omega
                          have hz3' : ((N : Int) - 1).toNat = N - 1 := by omega
                          have HP : Hid (0 < N) := by show _ < _; omega
                          have HCC : Hid (∀ w8, Step g o o w7 w8 → w8.cell? ⟨bb, N - 1, none⟩ = some (.int .i64 (xs.getD (N - 1) 0))) := fun w8 st8 => by
                            obtain ⟨b2, cap2, hv2, _, hc2⟩ := zv_cell' HXN.out (own_step HR7.out st8 HG6.out.2.1 HG6.out.2.2) (N - 1) (by have := HP.out; omega)
                            injection hv2 with hv4 hv5 hv6
                            injection hv4 with hv4
                            injection hv4 with hv4
                            subst hv4
                            exact hc2
                          clear h0 hcell0 hv2 hv3
                          go_wp2_with (go_at_call 194; refine (rnumber_any 2 (by omega) _ hf7).mono ?_; rintro rv w8 ⟨rfl, hf8, st8⟩; rw [← HL.out, ← HZ.out]; have hc8 := HCC.out w8 st8)
                          go_meet
                          refine ⟨_, 3 + z, _, _, rfl, by go_num, by omega, own_step HR7.out st8 HG6.out.2.1 HG6.out.2.2, hf8, HS7.out.trans st8, ?_⟩
                          have hrne : ¬ r = [] := fun e => by have h1 := HLR.out; have h2 := HP.out; rw [e] at h1; simp at h1; omega
                          rcases errN_cases s k2 2 0 (.inl rfl) with ⟨q1, q2⟩ | ⟨q1, q2⟩
                          · left
                            refine ⟨q2, r.getD (r.length - 1) 0, ?_, ?_⟩
                            · have e1 := HXR.out
                              have e2 := HLR.out
                              rw [e2, e1]
                              simp only [List.getD_eq_getElem?_getD, List.getElem?_map]
                              have hp := HP.out
                              rw [List.getElem?_eq_getElem (by omega)]
                              rfl
                            · show _ = _
                              rw [HSB2.out, if_neg hrne, if_pos (show has L k2 2 by unfold has; omega), Nat.min_eq_left q1]
                          · right
                            refine ⟨q2, ?_⟩
                            show _ = _
                            rw [HSB2.out, if_neg hrne, if_neg (show ¬ has L k2 2 by unfold has; omega)]
                      · have hxb : ((x : Int) == 16) = false := beq_eq_false_iff_ne.2 (by omega)
                        have HSB2 : Hid (rowStep L1 L k' r = if has L k2 (tspan x).2 then some (0, (tspan x).1 + numAt L k2 (tspan x).2, k2 + (tspan x).2) else none) := by
                          show _ = _
                          rw [HSB.out, if_neg (fun h => hx16 h.1), if_neg hx16]
                        by_cases hx17 : x = 17
                        · have ht : tspan x = (3, 3) := by rw [hx17]; rfl
                          rw [ht] at HSB2
                          simp only [] at HSB2
                          have hxc : ((x : Int) == 17) = true := beq_iff_eq.2 (by omega)
                          have lz := numAt_lt L k2 3
                          obtain ⟨z, HZ⟩ := hid_intro (numAt L k2 3)
                          rw [← HZ.out] at lz HSB2
                          have lz8 : z < 8 := lz
                          clear HSB lz hx16 h16 hx19 hd ht hx17
                          go_wp2_with (go_at_call 194; refine (rnumber_any 3 (by omega) _ hf7).mono ?_; rintro rv w8 ⟨rfl, hf8, st8⟩; rw [← HL.out, ← HZ.out])
                          go_meet
                          refine ⟨0, 3 + z, _, _, rfl, by go_num, by omega, own_step HR7.out st8 HG6.out.2.1 HG6.out.2.2, hf8, HS7.out.trans st8, ?_⟩
                          rcases errN_cases s k2 3 0 (.inl rfl) with ⟨q1, q2⟩ | ⟨q1, q2⟩
                          · left
                            refine ⟨q2, 0, rfl, ?_⟩
                            show _ = _
                            rw [HSB2.out, if_pos (show has L k2 3 by unfold has; omega), Nat.min_eq_left q1]
                          · right
                            refine ⟨q2, ?_⟩
                            show _ = _
                            rw [HSB2.out, if_neg (show ¬ has L k2 3 by unfold has; omega)]
                        · have ht : tspan x = (11, 7) := by unfold tspan; rw [if_neg hx16, if_neg hx17]
                          rw [ht] at HSB2
                          simp only [] at HSB2
                          have hxc : ((x : Int) == 17) = false := beq_eq_false_iff_ne.2 (by omega)
                          have lz := numAt_lt L k2 7
                          obtain ⟨z, HZ⟩ := hid_intro (numAt L k2 7)
                          rw [← HZ.out] at lz HSB2
                          have lz8 : z < 128 := lz
                          clear HSB lz hx16 h16 hx19 hd ht hx17
                          go_wp2_with (go_at_call 194; refine (rnumber_any 7 (by omega) _ hf7).mono ?_; rintro rv w8 ⟨rfl, hf8, st8⟩; rw [← HL.out, ← HZ.out])
                          go_meet
                          refine ⟨0, 11 + z, _, _, rfl, by go_num, by omega, own_step HR7.out st8 HG6.out.2.1 HG6.out.2.2, hf8, HS7.out.trans st8, ?_⟩
                          rcases errN_cases s k2 7 0 (.inl rfl) with ⟨q1, q2⟩ | ⟨q1, q2⟩
                          · left
                            refine ⟨q2, 0, rfl, ?_⟩
                            show _ = _
                            rw [HSB2.out, if_pos (show has L k2 7 by unfold has; omega), Nat.min_eq_left q1]
                          · right
                            refine ⟨q2, ?_⟩
                            show _ = _
                            rw [HSB2.out, if_neg (show ¬ has L k2 7 by unfold has; omega)]
                  · have HN : Hid (rowStep L1 L k' r = none) := by show _ = _; simp only [rowStep, hd]
                    clear hd
                    go_wp2
                    go_meet
                    exact ⟨-1, 1, k2, 5, rfl, rfl, by omega, HR7, hf7, HS7.out, .inr ⟨rfl, HN⟩⟩
                case rest =>
                  clear hx7 hf7 HR7 HS7 h47 HLL
                  obtain ⟨wh, n, k3, e3, rfl, rfl, hn138, HO, hF, st, hcase⟩ := hcut
                  have HCS := (show Hid _ from hcase)
                  have HF3 := (show Hid (Flo g s lim k3 o out e3 _) from hF)
                  have HS3 := (show Hid (Step g o o w6 _) from st)
                  clear hcase hF st
                  go_wp2
                  go_loopw [12, 16] (fun v vi wy => ∃ i : Nat, i ≤ n ∧ vi = .int .i64 (i : Int) ∧ Hid (wy.ownsRow w6.heap.size 3 1 v (N + i) (zvals (xs ++ List.replicate i wh))) ∧ Flo g s lim k3 o out e3 wy ∧ Step g o o w6 wy) (fun _ vi _ => n - (intOf vi).toNat)
                  case atStart => exact ⟨0, by omega, rfl, by simpa using HO, HF3.out, HS3.out⟩
                  case round =>
                    clear HO HF3 HS3
                    obtain ⟨i, hi, rfl, HO, hF, st⟩ := hrel
                    by_cases hlt2 : i < n
                    · obtain ⟨E, HE⟩ := hid_intro (zvals (xs ++ List.replicate i wh))
                      rw [← HE.out] at HO
                      have HT2 : Hid (zvals (xs ++ List.replicate (i + 1) wh) = E ++ [.int .i64 wh]) := by show _ = _; rw [List.replicate_succ', ← List.append_assoc, zvals_snoc, HE.out]
                      have hsz := st.size
                      go_wp2_with (at_builtin; refine wpList_append_lies _ rfl _ _ 87 rfl w6.heap.size 3 i0 (.int .i64 0) 1 8 Tryz.underlying87 hi0 hz0 hz1 hz2 rfl (by decide) _ (N + i) E rfl (World.ownsRow.alloc HO.out _) ⟨_, 0, none⟩ 1 1 [.int .i64 wh] rfl rfl (cell_one_new _ _ _) (by simp [Value.oneCell']) (by decide) (by unfold maxLen; omega) (by omega) (by simp; omega) _ rfl ?_; intro g2 cap2 w9 hown9 hg9 hat _; have HG9 := (show Hid _ from Flo.rowgrown hF st (Nat.le_refl _) HG6.out.2.1 HG6.out.2.2 HO.out ((Below.refl _ _).alloc (Nat.le_refl _) _) hg9); have HO9 := (show Hid (w9.ownsRow _ _ _ _ _ _) from hown9); clear hown9 hg9 hat)
                      go_roundw
                      case rel => exact ⟨i + 1, by omega, by go_num, by rw [HT2.out]; exact HO9, HG9.out.1, HG9.out.2⟩
                      case measure => simp [intOf]; omega
                    · obtain rfl : i = n := by omega
                      go_wp2
                      have hlen : lenOf u12 = N + i := by obtain ⟨_, _, e⟩ := own_shape HO.out; rw [e]; rfl
                      have hstep := HTr.out
                      rw [rowGo_step L1 L _ f k' r (by have := HLR.out; omega)] at hstep
                      have hxl2 : (xs ++ List.replicate i wh).length = N + i := by rw [List.length_append, HXN.out]; simp
                      rcases HCS.out with ⟨rfl, y, rfl, hrs⟩ | ⟨rfl, hrs⟩
                      · rw [hrs.out] at hstep
                        obtain ⟨hy15, hi1⟩ := rowStep_le hrs.out H15r.out
                        refine ⟨⟨f, k3, 0, N + i, xs ++ List.replicate i (y : Int), hxl2, by omega, HO, hF, st, .inl ⟨rfl, r ++ List.replicate i y, ?_, ?_, by omega, ?_, hstep⟩⟩, ?_⟩
                        · show _ = _; rw [HXR.out]; simp
                        · show _ = _; rw [HLR.out]; simp
                        · intro x hx
                          rcases List.mem_append.1 hx with hx | hx
                          · exact H15r.out x hx
                          · rw [List.eq_of_mem_replicate hx]; exact hy15
                        · rw [hF.rowLeft, HRL.out, hlen]; simp [lenOf]; omega
                      · rw [hrs.out] at hstep
                        refine ⟨⟨f, k3, 5, N + i, _, hxl2, by omega, HO, hF, st, .inr ⟨rfl, hstep⟩⟩, ?_⟩
                        rw [hF.rowLeft, HRL.out]; simp [lenOf]; omega
              · by_cases hne : N = n1 + 257 + (n2 + 1)
                · have hlti : ¬ (N : Int) < (n1 : Int) + 257 + ((n2 : Int) + 1) := by omega
                  have hneb : ((N : Int) != (n1 : Int) + 257 + ((n2 : Int) + 1)) = false := by rw [bne_eq_false_iff_eq]; omega
                  obtain ⟨f, rfl⟩ : ∃ f', f = f' + 1 := ⟨f - 1, by omega⟩
                  have HTS : Hid (T = some (k', r)) := by show _ = _; rw [HTr.out, rowGo_end _ _ _ _ _ _ (by have := HLR.out; omega)]
                  have hO2 := HO.out
                  rw [HXR.out, zvals_nat] at hO2
                  have hO3 : wr.ownsRow w6.heap.size 3 1 (Value.slice ao N cap) r.length (ivals r) := by rw [← HLR.out]; exact hO2
                  obtain ⟨b, cap', hv', hcap, _⟩ := int_cell hO3 0 (by have := HLR.out; omega)
                  injection hv' with hv1 hv2 hv3
                  subst hv1; subst hv3
                  have hlr := HLR.out
                  have hIl : IntsAt wr b 0 (r.take (n1 + 257)) := IntsAt.of_own hO3 (by omega) 0 0 _ (fun j hj => by
                    have hj' : j < n1 + 257 := by simp at hj; omega
                    refine ⟨by simp at hj ⊢; omega, ?_⟩
                    simp only [Nat.zero_add, List.getD_eq_getElem?_getD]
                    rw [List.getElem?_take_of_lt hj'])
                  have hId : IntsAt wr b (n1 + 257) (r.drop (n1 + 257)) := IntsAt.of_own hO3 (by omega) (n1 + 257) 0 _ (fun j hj => by
                    refine ⟨by simp at hj; omega, ?_⟩
                    simp only [List.getD_eq_getElem?_getD]
                    rw [List.getElem?_drop])
                  have hll : (r.take (n1 + 257)).length = n1 + 257 := by simp; omega
                  have hdl : (r.drop (n1 + 257)).length = n2 + 1 := by simp; omega
                  have h15l : ∀ x ∈ r.take (n1 + 257), x ≤ 15 := fun x hx => H15r.out x (List.mem_of_mem_take hx)
                  have h15d : ∀ x ∈ r.drop (n1 + 257), x ≤ 15 := fun x hx => H15r.out x (List.mem_of_mem_drop hx)
                  have HRF : Hid (R = if (r.take (n1 + 257)).getD 256 0 = 0 ∨ kraft (r.take (n1 + 257)) ≠ 32768 ∨ (kraft (r.drop (n1 + 257)) ≠ 32768 ∧ (r.drop (n1 + 257)).sum > 1) then none else some (k', r.take (n1 + 257), r.drop (n1 + 257))) := by show _ = _; rw [HRT.out, HTS.out]; rfl
                  obtain ⟨lx, HLX⟩ := hid_intro (r.take (n1 + 257))
                  obtain ⟨dx, HDX⟩ := hid_intro (r.drop (n1 + 257))
                  rw [← HLX.out, ← HDX.out] at HRF
                  rw [← HLX.out] at hIl hll h15l
                  rw [← HDX.out] at hId hdl h15d
                  have hcl := fun w => cut_to b N cap (n1 + 257) ((n1 : Int) + 257) (by omega) (by omega) w
                  have hcd := fun w => cut_from b N cap (n1 + 257) ((n1 : Int) + 257) (by omega) (by omega) (by omega) w
                  rw [show N - (n1 + 257) = n2 + 1 by omega] at hcd
                  have HFL := (show Hid _ from rfull_any lx (by omega) h15l b 0 cap wr hIl)
                  have HFD := (show Hid _ from rfull_any dx (by omega) h15d b (n1 + 257) (cap - (n1 + 257)) wr hId)
                  rw [hll] at HFL
                  rw [hdl] at HFD
                  have hc256 := hIl.2 256 (by omega)
                  rw [Nat.zero_add] at hc256
                  have HIL : Hid (IntsAt wr b 0 lx) := hIl
                  have HID : Hid (IntsAt wr b (n1 + 257) dx) := hId
                  have HH15d := (show Hid _ from h15d)
                  have HLL := (show Hid _ from hll)
                  have HDL := (show Hid _ from hdl)
                  have hy256 : lx.getD 256 0 ≤ 15 := h15l _ (getD_mem (by omega))
                  obtain ⟨y, HY⟩ := hid_intro (lx.getD 256 0)
                  rw [← HY.out] at hc256 hy256 HRF
                  have hN400 : N ≤ 320 := by omega
                  clear hIl hId h15l h15d hll hdl hO2 hO3 HO HXR HTr HTS hlr hlt hne hv2 HRL HLR hf
                  go_wp2
                  go_loopw [19, 20] (fun vs vi wz => ∃ i : Nat, i ≤ n2 + 1 ∧ vi = .int .i64 (i : Int) ∧ vs = .int .i64 (((dx.take i).sum : Nat) : Int) ∧ wz = wr) (fun _ vi _ => n2 + 1 - (intOf vi).toNat)
                  case atStart => exact ⟨0, by omega, rfl, rfl, rfl⟩
                  case round =>
                    obtain ⟨i, hi, rfl, rfl, hw⟩ := hrel
                    rw [hw]; clear hw
                    have hsm : (dx.take i).sum ≤ 15 * i := sum_take_le dx HH15d.out i
                    by_cases hlt : i < n2 + 1
                    · have hci := HID.out.2 i (by rw [HDL.out]; exact hlt)
                      have hd15 : dx.getD i 0 ≤ 15 := HH15d.out _ (getD_mem (by rw [HDL.out]; exact hlt))
                      have HSS : Hid ((dx.take (i + 1)).sum = (dx.take i).sum + dx.getD i 0) := by show _ = _; rw [take_next dx i (by rw [HDL.out]; exact hlt)]; simp
                      obtain ⟨sm, HSM⟩ := hid_intro (dx.take i).sum
                      obtain ⟨di, HDI⟩ := hid_intro (dx.getD i 0)
                      rw [← HSM.out] at hsm HSS ⊢
                      rw [← HDI.out] at hci hd15 HSS
                      have hlti2 : (i : Int) < (n2 : Int) + 1 := by omega
                      go_wp2
                      go_roundw
                      case rel => exact ⟨i + 1, by omega, by go_num, by rw [HSS.out]; simp, trivial⟩
                      case measure => simp [intOf]; omega
                    · obtain rfl : i = n2 + 1 := by omega
                      rw [List.take_of_length_le (by rw [HDL.out]; omega)] at hsm ⊢
                      obtain ⟨sm, HSM⟩ := hid_intro dx.sum
                      rw [← HSM.out] at hsm HRF ⊢
                      obtain ⟨Q1, HQ1⟩ := hid_intro (decide (kraft lx = 32768))
                      obtain ⟨Q2, HQ2⟩ := hid_intro (decide (kraft dx = 32768))
                      rw [← HQ1.out] at HFL
                      rw [← HQ2.out] at HFD
                      have hRF : R = if y = 0 ∨ Q1 = false ∨ (Q2 = false ∧ sm > 1) then none else some (k', lx, dx) := by
                        rw [HRF.out]
                        have a1 : (kraft lx ≠ 32768) ↔ Q1 = false := by rw [HQ1.out]; simp
                        have a2 : (kraft dx ≠ 32768) ↔ Q2 = false := by rw [HQ2.out]; simp
                        simp only [a1, a2]
                      have HRF2 := (show Hid _ from hRF)
                      clear hRF HRF HQ1 HQ2 hi hlt
                      have HFF := (show Hid (Flo g s lim k' o out 0 _) from hF)
                      have hlast : ∀ w9, Flo g s lim k' o out 5 w9 → Step g o o _ w9 → R = none → Step g o o w w9 ∧ (R = none ∧ Flo g s lim k' o out 5 w9) := fun w9 h1 h2 h3 => ⟨HST6.out.trans (st.trans h2), h3, h1⟩
                      have HLAST := (show Hid _ from hlast)
                      clear hlast
                      by_cases hy0 : y = 0
                      · have hyb : ((y : Int) == 0) = true := beq_iff_eq.2 (by omega)
                        have HN : Hid (R = none) := by show _ = _; rw [HRF2.out, if_pos (.inl hy0)]
                        clear hy0
                        go_wp2_with (first
                          | (go_at_call 246; refine Calls.mono HFL.out ?_; rintro rv w8 ⟨rfl, hw8⟩; rw [hw8]; clear hw8 HFL)
                          | (go_at_call 246; refine Calls.mono HFD.out ?_; rintro rv w8 ⟨rfl, hw8⟩; rw [hw8]; clear hw8 HFD)
                          | (go_at_call 195; refine (wrong_any _ HFF.out).mono ?_; rintro rv w9 ⟨rfl, hf9, st9⟩; have hf9' := (show Flo g s lim k' o out 5 w9 from hf9); clear hf9))
                        go_ret2
                        exact ⟨(HLAST.out w9 hf9' st9 HN.out).1, .inr ⟨HN.out, _, _, _, rfl, hf9'⟩⟩
                      · have hyb : ((y : Int) == 0) = false := beq_eq_false_iff_ne.2 (by omega)
                        have HY0 := (show Hid _ from hy0)
                        clear hy0
                        cases Q1 with
                        | false =>
                          have HN : Hid (R = none) := by show _ = _; rw [HRF2.out, if_pos (.inr (.inl rfl))]
                          go_wp2_with (first
                            | (go_at_call 246; refine Calls.mono HFL.out ?_; rintro rv w8 ⟨rfl, hw8⟩; rw [hw8]; clear hw8 HFL)
                            | (go_at_call 246; refine Calls.mono HFD.out ?_; rintro rv w8 ⟨rfl, hw8⟩; rw [hw8]; clear hw8 HFD)
                            | (go_at_call 195; refine (wrong_any _ HFF.out).mono ?_; rintro rv w9 ⟨rfl, hf9, st9⟩; have hf9' := (show Flo g s lim k' o out 5 w9 from hf9); clear hf9))
                          go_ret2
                          exact ⟨(HLAST.out w9 hf9' st9 HN.out).1, .inr ⟨HN.out, _, _, _, rfl, hf9'⟩⟩
                        | true =>
                          cases Q2 with
                          | true =>
                            have HY : Hid (R = some (k', lx, dx)) := by show _ = _; rw [HRF2.out, if_neg (by rintro (h | h | h); exact HY0.out h; cases h; exact absurd h.1 (by simp))]
                            go_wp2_with (first
                              | (go_at_call 246; refine Calls.mono HFL.out ?_; rintro rv w8 ⟨rfl, hw8⟩; rw [hw8]; clear hw8 HFL)
                              | (go_at_call 246; refine Calls.mono HFD.out ?_; rintro rv w8 ⟨rfl, hw8⟩; rw [hw8]; clear hw8 HFD))
                            go_ret2
                            exact ⟨HST6.out.trans st, .inl ⟨k', lx, dx, b, cap, cap - (n1 + 257), HY.out, by rw [HLL.out, HDL.out]; rfl, HIL.out, by rw [HLL.out]; exact HID.out, HFF.out⟩⟩
                          | false =>
                            by_cases hs1 : sm > 1
                            · have hsb : (1 : Int) < (sm : Int) := by omega
                              have HN : Hid (R = none) := by show _ = _; rw [HRF2.out, if_pos (.inr (.inr ⟨rfl, hs1⟩))]
                              go_wp2_with (first
                                | (go_at_call 246; refine Calls.mono HFL.out ?_; rintro rv w8 ⟨rfl, hw8⟩; rw [hw8]; clear hw8 HFL)
                                | (go_at_call 246; refine Calls.mono HFD.out ?_; rintro rv w8 ⟨rfl, hw8⟩; rw [hw8]; clear hw8 HFD)
                                | (go_at_call 195; refine (wrong_any _ HFF.out).mono ?_; rintro rv w9 ⟨rfl, hf9, st9⟩; have hf9' := (show Flo g s lim k' o out 5 w9 from hf9); clear hf9))
                              go_ret2
                              exact ⟨(HLAST.out w9 hf9' st9 HN.out).1, .inr ⟨HN.out, _, _, _, rfl, hf9'⟩⟩
                            · have hsb : ¬ (1 : Int) < (sm : Int) := by omega
                              have HY : Hid (R = some (k', lx, dx)) := by show _ = _; rw [HRF2.out, if_neg (by rintro (h | h | h); exact HY0.out h; cases h; exact hs1 h.2)]
                              go_wp2_with (first
                                | (go_at_call 246; refine Calls.mono HFL.out ?_; rintro rv w8 ⟨rfl, hw8⟩; rw [hw8]; clear hw8 HFL)
                                | (go_at_call 246; refine Calls.mono HFD.out ?_; rintro rv w8 ⟨rfl, hw8⟩; rw [hw8]; clear hw8 HFD))
                              go_ret2
                              exact ⟨HST6.out.trans st, .inl ⟨k', lx, dx, b, cap, cap - (n1 + 257), HY.out, by rw [HLL.out, HDL.out]; rfl, HIL.out, by rw [HLL.out]; exact HID.out, HFF.out⟩⟩
                · have hlti : ¬ (N : Int) < (n1 : Int) + 257 + ((n2 : Int) + 1) := by omega
                  have hneb : ((N : Int) != (n1 : Int) + 257 + ((n2 : Int) + 1)) = true := by rw [bne_iff_ne]; omega
                  have HTN : Hid (T = none) := by
                    show _ = _
                    rw [HTr.out]
                    cases f with
                    | zero => rfl
                    | succ f => exact rowGo_many _ _ _ _ _ _ (by have := HLR.out; omega)
                  have HRN : Hid (R = none) := by show _ = _; rw [HRT.out, HTN.out]; rfl
                  go_wp2_with (go_at_call 195; refine (wrong_any _ hF).mono ?_; rintro rv w8 ⟨rfl, hf8, st8⟩; have hf8' := (show Flo g s lim k' o out 5 w8 from hf8); clear hf8)
                  go_ret2
                  exact ⟨HST6.out.trans (st.trans st8), .inr ⟨HRN.out, _, _, _, rfl, hf8'⟩⟩
            · have he5 : ((5 : Int) == 0) = false := rfl
              have HRN : Hid (R = none) := by show _ = _; rw [HRT.out, HTN.out]; rfl
              by_cases hlt : (N : Int) < (n1 : Int) + 257 + ((n2 : Int) + 1)
              all_goals
                go_wp2_with (go_at_call 195; refine (wrong_any _ hF).mono ?_; rintro rv w8 ⟨rfl, hf8, st8⟩; have hf8' := (show Flo g s lim k' o out 5 w8 from hf8); clear hf8)
                go_ret2
                exact ⟨HST6.out.trans (st.trans st8), .inr ⟨HRN.out, _, _, _, rfl, hf8'⟩⟩
        ·
          obtain ⟨hR, hO⟩ := HBAD.out (.inr rfl)
          have HRR := (show Hid _ from hR)
          have HOO := (show Hid _ from hO)
          clear hR hO HBAD HGOOD
          go_wp2_with (first
            | (go_at_call 246; refine Calls.mono HFU.out ?_; rintro r w5 ⟨rfl, hw5⟩; rw [hw5]; clear hw5)
            | (go_at_call 195; refine (wrong_any _ HFl.out).mono ?_; rintro r w6 ⟨rfl, hf6, st6⟩; rw [HOO.out] at hf6))
          go_ret2
          exact ⟨HSt.out.trans st6, .inr ⟨HRR.out, _, _, _, rfl, hf6⟩⟩
end
end Go.Proofs.YtgfbbcnnmoamnaaGreatDoor
