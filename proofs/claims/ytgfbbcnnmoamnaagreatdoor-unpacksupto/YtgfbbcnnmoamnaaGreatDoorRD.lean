/- The document's test of lengths. The document's codes, as they are made. The document's next symbol. -/
import Derived.Test.YtgfbbcnnmoamnaaGreatDoorRA
import Derived.Test.YtgfbbcnnmoamnaaGreatDoorPH
namespace Go.Proofs.YtgfbbcnnmoamnaaGreatDoor
open Go.RowKit

theorem kraft_snoc (l : List Nat) (a : Nat) : kraft (l ++ [a]) = kraft l + (if a = 0 then 0 else 2 ^ (15 - a)) := by simp [kraft]
theorem kraft_le (l : List Nat) : kraft l ≤ 16384 * l.length := by
  induction l with
  | nil => simp [kraft]
  | cons a l ih =>
    have h : kraft (a :: l) = (if a = 0 then 0 else 2 ^ (15 - a)) + kraft l := by simp [kraft]
    have h2 : (if a = 0 then 0 else 2 ^ (15 - a)) ≤ 16384 := by
      split
      · omega
      · calc 2 ^ (15 - a) ≤ 2 ^ 14 := Nat.pow_le_pow_right (by omega) (by omega)
          _ = 16384 := rfl
    rw [h, List.length_cons]; omega
theorem kraft_take (l : List Nat) (i : Nat) (h : i < l.length) : kraft (l.take (i + 1)) = kraft (l.take i) + (if l.getD i 0 = 0 then 0 else 2 ^ (15 - l.getD i 0)) := by
  rw [List.take_succ_eq_append_getElem h, kraft_snoc]; simp [h]
set_option maxHeartbeats 400000 in
set_option maxRecDepth 8000 in
theorem rfull_any (lens : List Nat) (hl : lens.length ≤ 400) (h15 : ∀ n ∈ lens, n ≤ 15) (h off cap : Nat) (w : World) (hI : IntsAt w h off lens) :
    Calls Tryz.prog 246 #[.slice (some ⟨h, off, none⟩) lens.length cap] w fun r w' => r = .returned (.bool (decide (kraft lens = 32768))) ∧ w' = w := by
  obtain ⟨N, HN⟩ := hid_intro lens.length
  rw [← HN.out] at hl ⊢
  have HI : Hid (IntsAt w h off lens) := hI
  have H15 : Hid (∀ n ∈ lens, n ≤ 15) := h15
  clear hI h15
  go_enter Tryz.func246, Tryz.ntmps246
  go_wp2
  go_loopw [3, 4] (fun vs vi wr => ∃ i : Nat, i ≤ N ∧ vs = .int .i64 (kraft (lens.take i)) ∧ vi = .int .i64 i ∧ wr = w) (fun _ vi _ => N - (intOf vi).toNat)
  case atStart => exact ⟨0, by omega, by simp [kraft], rfl, rfl⟩
  case round =>
    obtain ⟨i, hi, rfl, rfl, rfl⟩ := hrel
    have hkl : kraft (lens.take i) ≤ 16384 * 400 := by
      have h1 := kraft_le (lens.take i)
      have h2 : (lens.take i).length ≤ 400 := by simp; omega
      omega
    by_cases hlt : i < N
    · have hcx : wr.cell? ⟨h, off + i, none⟩ = some (.int .i64 ((lens.getD i 0 : Nat) : Int)) := HI.out.2 i (by have := HN.out; omega)
      have hx15 : lens.getD i 0 ≤ 15 := H15.out _ (getD_mem (by have := HN.out; omega))
      have HK : Hid (kraft (lens.take (i + 1)) = kraft (lens.take i) + (if lens.getD i 0 = 0 then 0 else 2 ^ (15 - lens.getD i 0))) := kraft_take lens i (by have := HN.out; omega)
      obtain ⟨x, HX⟩ := hid_intro (lens.getD i 0)
      rw [← HX.out] at hcx hx15 HK
      obtain ⟨K, HKK⟩ := hid_intro (kraft (lens.take i))
      rw [← HKK.out] at hkl HK ⊢
      by_cases hx0 : x = 0
      · subst hx0
        go_wp2
        go_roundw
        case rel => exact ⟨i + 1, by omega, by rw [HK.out]; rfl, by go_num, by first | rfl | trivial⟩
        case measure => simp [intOf]; omega
      · rw [if_neg hx0] at HK
        go_wp2
        go_loopw [5, 6] (fun vp vk wx => ∃ c : Nat, c ≤ x ∧ vk = .int .i64 c ∧ vp = .int .i64 ((2 ^ (15 - c) : Nat) : Int) ∧ wx = wr) (fun _ vk _ => x - (intOf vk).toNat)
        case atStart => exact ⟨0, by omega, rfl, rfl, rfl⟩
        case round =>
          obtain ⟨c, hc, rfl, rfl, rfl⟩ := hrel
          have hpw : 2 ^ (15 - c) ≤ 32768 := by
            calc 2 ^ (15 - c) ≤ 2 ^ 15 := Nat.pow_le_pow_right (by omega) (by omega)
              _ = 32768 := rfl
          by_cases hcl : c < x
          · have HP : Hid (2 ^ (15 - (c + 1)) = 2 ^ (15 - c) / 2) := by
              show _ = _; rw [show 15 - c = 15 - (c + 1) + 1 by omega, Nat.pow_succ]; omega
            obtain ⟨p, Hp⟩ := hid_intro (2 ^ (15 - c))
            rw [← Hp.out] at HP hpw ⊢
            go_wp2
            go_roundw
            case rel => exact ⟨c + 1, by omega, by go_num, by rw [HP.out]; simp, by first | rfl | trivial⟩
            case measure => simp [intOf]; omega
          · obtain rfl : c = x := by omega
            obtain ⟨p, Hp⟩ := hid_intro (2 ^ (15 - c))
            rw [← Hp.out] at HK hpw ⊢
            go_wp2
            go_roundw
            case rel => exact ⟨i + 1, by omega, by rw [HK.out]; simp, by go_num, by first | rfl | trivial⟩
            case measure => simp [intOf]; omega
    · obtain rfl : i = N := by omega
      have HT : Hid (lens.take i = lens) := by rw [HN.out]; exact List.take_length
      rw [HT.out] at hkl ⊢
      go_wp2
      go_ret
      refine ⟨?_, rfl⟩
      by_cases hk : kraft lens = 32768
      · rw [hk]; rfl
      · have h1 : ((kraft lens : Int) == 32768) = false := by simp; omega
        rw [h1, decide_eq_false hk]; rfl
end Go.Proofs.YtgfbbcnnmoamnaaGreatDoor

namespace Go.Proofs.YtgfbbcnnmoamnaaGreatDoor
open Go.RowKit

/-- the codes that are made, lengths below n and the first i symbols of length n -/
def entsAt (lens : List Nat) (n i : Nat) : List Ent := entsB lens n ++ ents1 n (fst lens n) (symsOf (lens.take i) n)
theorem entsAt_zero (lens : List Nat) (n : Nat) : entsAt lens n 0 = entsB lens n := by
  unfold entsAt symsOf; split <;> simp [symsFrom, ents1]
theorem entsAt_end (lens : List Nat) (n : Nat) : entsAt lens n lens.length = entsB lens (n + 1) := by
  unfold entsAt; rw [List.take_length]; rfl
theorem entsAt_skip (lens : List Nat) (n i : Nat) (hn : n ≠ 0) (hi : i < lens.length) (h : lens.getD i 0 ≠ n) : entsAt lens n (i + 1) = entsAt lens n i := by
  unfold entsAt; rw [take_next lens i hi, symsOf_append _ _ _ hn, if_neg h, List.append_nil]
theorem entsAt_step (lens : List Nat) (n i : Nat) (hn : n ≠ 0) (hi : i < lens.length) (h : lens.getD i 0 = n) : entsAt lens n (i + 1) = entsAt lens n i ++ [⟨i, fst lens n + (symsOf (lens.take i) n).length, n⟩] := by
  unfold entsAt; rw [take_next lens i hi, symsOf_append _ _ _ hn, if_pos h, ents1_snoc]; simp; omega
/-- the cells of a row of codes -/
def entCells (l : List Ent) : List Value := l.flatMap fun e => [.int .i64 (e.sym : Int), .string ⟨(digs e.val e.len).toArray⟩]
theorem entCells_snoc (l : List Ent) (e : Ent) : entCells (l ++ [e]) = entCells l ++ [.int .i64 (e.sym : Int), .string ⟨(digs e.val e.len).toArray⟩] := by simp [entCells]
theorem entsAt_len (lens : List Nat) (n i : Nat) : (entsAt lens n i).length = psd lens n + (symsOf (lens.take i) n).length := by
  unfold entsAt; rw [List.length_append, entsB_len, ents1_len]
theorem fst_cap (lens : List Nat) (hl : lens.length ≤ 400) : ∀ n, fst lens n + 800 ≤ 800 * 2 ^ n
  | 0 => by simp [fst]
  | n + 1 => by
    have h1 := fst_cap lens hl n
    have h2 : cnt lens n ≤ 400 := by unfold cnt; split; omega; exact Nat.le_trans (List.count_le_length) hl
    rw [fst, Nat.pow_succ]; omega
theorem fst_small (lens : List Nat) (hl : lens.length ≤ 400) (n : Nat) (hn : n ≤ 15) : fst lens n ≤ 26214400 := by
  have h1 := fst_cap lens hl n
  have h2 : 2 ^ n ≤ 2 ^ 15 := Nat.pow_le_pow_right (by omega) hn
  have h3 : (2 : Nat) ^ 15 = 32768 := rfl
  omega
theorem symsOf_le (lens : List Nat) (i n : Nat) (hl : lens.length ≤ 400) : (symsOf (lens.take i) n).length ≤ 400 := by
  rw [symsOf_len]; unfold cnt; split
  · omega
  · have := List.count_le_length (a := n) (l := lens.take i); simp at this; omega
theorem psd_cap (lens : List Nat) (hl : lens.length ≤ 400) : ∀ n, psd lens n ≤ 400 * n
  | 0 => by simp [psd]
  | n + 1 => by
    have h1 := psd_cap lens hl n
    have h2 : cnt lens n ≤ 400 := by unfold cnt; split; omega; exact Nat.le_trans (List.count_le_length) hl
    rw [psd]; omega
theorem cell_two_new (w : World) (a b : Value) (t : TypeId) (j : Nat) (u : Value) (h : [a, b][j]? = some u) : (w.alloc (.cells #[a, b] t (0, 0))).cell? ((⟨w.heap.size, 0, none⟩ : Addr).add j) = some u := by
  have e : (⟨w.heap.size, 0, none⟩ : Addr).add j = ⟨w.heap.size, j, none⟩ := by simp [Addr.add]; omega
  rw [e, cell_of_row _ _ j _ _ _ (heap_alloc_new w _), ← h]; simp
theorem infoCode : (Tryz.prog.info? 352).map (fun i => (i.zero, i.size, i.bytes)) = some (some (.agg #[.int .i64 0, .string ⟨#[]⟩]), 2, 24) := by kernel_rfl
set_option maxHeartbeats 1000000 in
set_option maxRecDepth 8000 in
theorem rcodes_any (lens : List Nat) (hl : lens.length ≤ 400) (h15 : ∀ n ∈ lens, n ≤ 15) (h off cap : Nat) (w : World) (hI : IntsAt w h off lens) :
    Calls Tryz.prog 200 #[.slice (some ⟨h, off, none⟩) lens.length cap] w fun r w' => ∃ v, r = .returned v ∧ w'.ownsRow w.heap.size 352 2 v (ents lens).length (entCells (ents lens)) ∧ Below w.heap.size w w' := by
  have hfs := fst_small lens hl
  have hsy := fun i n => symsOf_le lens i n hl
  have hps := psd_cap lens hl
  obtain ⟨N, HN⟩ := hid_intro lens.length
  rw [← HN.out] at hl ⊢
  have HI : Hid (IntsAt w h off lens) := hI
  have HZ : Hid (h < w.heap.size) := hI.1
  have H15 : Hid (∀ n ∈ lens, n ≤ 15) := h15
  clear hI h15
  obtain ⟨i0, hi0, hz0, hz1, hz2⟩ := info_parts infoCode
  go_enter Tryz.func200, Tryz.ntmps200
  go_wp2
  go_loopw [3, 4, 5, 6] (fun vo vx vl vn wr => ∃ n x l : Nat, 1 ≤ n ∧ n ≤ 16 ∧ l ≤ n ∧ Hid (x * 2 ^ (n - l) = fst lens n) ∧ vx = .int .i64 x ∧ vl = .int .i64 l ∧ vn = .int .i64 n ∧ Hid (wr.ownsRow w.heap.size 352 2 vo (entsB lens n).length (entCells (entsB lens n))) ∧ Below w.heap.size w wr) (fun _ _ _ vn _ => 16 - (intOf vn).toNat)
  case atStart => exact ⟨1, 0, 0, by omega, by omega, by omega, by show _ = _; simp [fst, cnt], rfl, rfl, rfl, ⟨by simp [entCells, entsB, ents1, symsOf], .inl ⟨rfl, by simp [entsB, ents1, symsOf]⟩⟩, Below.refl ..⟩
  case round =>
    obtain ⟨n, x, l, hn1, hn16, hln, HX, rfl, rfl, rfl, HO, hb⟩ := hrel
    by_cases hn : n ≤ 15
    · have hd : decide ((n : Int) ≤ 15) = true := decide_eq_true (by omega)
      have HF := (show Hid _ from hfs n hn)
      have HPS := (show Hid _ from hps n)
      go_wp2
      go_loopw [3, 4, 5, 7] (fun vo vx vl vi wq => ∃ i x l : Nat, i ≤ N ∧ l ≤ n ∧ Hid (x * 2 ^ (n - l) = fst lens n + (symsOf (lens.take i) n).length) ∧ vx = .int .i64 x ∧ vl = .int .i64 l ∧ vi = .int .i64 i ∧ Hid (wq.ownsRow w.heap.size 352 2 vo (entsAt lens n i).length (entCells (entsAt lens n i))) ∧ Below w.heap.size w wq) (fun _ _ _ vi _ => N - (intOf vi).toNat)
      case atStart =>
        refine ⟨0, x, l, by omega, hln, ?_, rfl, rfl, rfl, ?_, hb⟩
        · show _ = _; rw [HX.out]; simp [symsOf, symsFrom]
        · rw [entsAt_zero]; exact HO
      case round =>
        clear HX HO hb hln
        obtain ⟨i, x, l, hi, hln, HX, rfl, rfl, rfl, HO, hb⟩ := hrel
        by_cases hlt : i < N
        · have hcx : wr.cell? ⟨h, off + i, none⟩ = some (.int .i64 ((lens.getD i 0 : Nat) : Int)) := (hb.cell HZ.out).trans (HI.out.2 i (by have := HN.out; omega))
          have hx15 : lens.getD i 0 ≤ 15 := H15.out _ (getD_mem (by have := HN.out; omega))
          have HSY := (show Hid _ from hsy i n)
          have HSK : Hid (lens.getD i 0 ≠ n → entsAt lens n (i + 1) = entsAt lens n i ∧ symsOf (lens.take (i + 1)) n = symsOf (lens.take i) n) := fun hne => ⟨entsAt_skip lens n i (by omega) (by have := HN.out; omega) hne, by rw [take_next lens i (by have := HN.out; omega), symsOf_append _ _ _ (by omega), if_neg hne, List.append_nil]⟩
          have HST : Hid (lens.getD i 0 = n → entsAt lens n (i + 1) = entsAt lens n i ++ [⟨i, fst lens n + (symsOf (lens.take i) n).length, n⟩] ∧ (symsOf (lens.take (i + 1)) n).length = (symsOf (lens.take i) n).length + 1) := fun he => ⟨entsAt_step lens n i (by omega) (by have := HN.out; omega) he, by rw [take_next lens i (by have := HN.out; omega), symsOf_append _ _ _ (by omega), if_pos he]; simp⟩
          obtain ⟨y, HY⟩ := hid_intro (lens.getD i 0)
          rw [← HY.out] at hcx hx15 HSK HST
          by_cases hy : y = n
          · subst hy
            have hEl := entsAt_len lens y i
            obtain ⟨hst1, hst2⟩ := HST.out rfl
            have HS1 := (show Hid _ from hst1)
            have HS2 := (show Hid _ from hst2)
            clear hst1 hst2 HST HSK
            have hF : fst lens y + (symsOf (lens.take i) y).length ≤ 26214800 := by have := HF.out; have := HSY.out; omega
            have hM : (entsAt lens y i).length ≤ 7000 := by have := HPS.out; have := HSY.out; omega
            clear hEl HPS HSY HF
            obtain ⟨F, HFF⟩ := hid_intro (fst lens y + (symsOf (lens.take i) y).length)
            rw [← HFF.out] at hF HX HS1
            have HL1 : Hid ((entsAt lens y (i + 1)).length = (entsAt lens y i).length + 1) := by show _ = _; rw [HS1.out]; simp
            have HC1 : Hid (entCells (entsAt lens y (i + 1)) = entCells (entsAt lens y i) ++ [.int .i64 (i : Int), .string ⟨(digs F y).toArray⟩]) := by show _ = _; rw [HS1.out, entCells_snoc]
            obtain ⟨M, HM⟩ := hid_intro (entsAt lens y i).length
            rw [← HM.out] at hM HL1 HO
            obtain ⟨E, HE⟩ := hid_intro (entCells (entsAt lens y i))
            rw [← HE.out] at HC1 HO
            go_wp2
            go_loopw [4, 5] (fun vx vl wq => ∃ x l : Nat, l ≤ y ∧ Hid (x * 2 ^ (y - l) = F) ∧ vx = .int .i64 x ∧ vl = .int .i64 l ∧ wq = wr) (fun _ vl _ => y - (intOf vl).toNat)
            case atStart => exact ⟨x, l, hln, HX, rfl, rfl, rfl⟩
            case round =>
              clear HX hln
              obtain ⟨x, l, hln, HX, rfl, rfl, hw⟩ := hrel
              rw [hw]; clear hw
              have hxF : x ≤ F := by rw [← HX.out]; exact Nat.le_mul_of_pos_right _ (Nat.two_pow_pos _)
              by_cases hly : l < y
              · go_wp2
                go_roundw
                case rel =>
                  refine ⟨2 * x, l + 1, by omega, ?_, by go_num, by go_num, by first | rfl | trivial⟩
                  show _ = _
                  rw [← HX.out, show y - l = y - (l + 1) + 1 by omega, Nat.pow_succ, Nat.mul_comm 2 x, Nat.mul_assoc, Nat.mul_comm 2]
                case measure => simp [intOf]; omega
              · obtain rfl : l = y := by omega
                have hxe : x = F := by have := HX.out; simpa using this
                subst hxe
                go_wp2_with (first
                  | (go_at_call 247; refine (rbinary_any x l (by omega) (by omega) _).mono ?_; rintro e w2 ⟨rfl, hw2⟩; rw [hw2]; clear hw2)
                  | (at_builtin; refine wpList_append_lies _ rfl _ _ 296 rfl w.heap.size 352 i0 (.agg #[.int .i64 0, .string ⟨#[]⟩]) 2 24 Tryz.underlying296 hi0 hz0 hz1 hz2 rfl (by decide) _ M E rfl (World.ownsRow.alloc HO.out _) ⟨_, 0, none⟩ 1 1 [.int .i64 (i : Int), .string ⟨(digs x l).toArray⟩] rfl rfl (cell_two_new _ _ _ _) (by simp [Value.oneCell']) (by decide) (by unfold maxLen; omega) (by omega) (by simp; have := hb.size; omega) _ rfl ?_; intro g2 cap2 w5 hown5 hg5 hat _; have HB5 := (show Hid _ from grown_below (hb.alloc (hb.size) _) (World.ownsRow.alloc HO.out _) (Nat.le_refl _) (by simp; have := hb.size; omega) hg5); have HO5 := (show Hid _ from hown5); clear hown5 hg5 hat))
                go_roundw
                case rel =>
                  refine ⟨i + 1, x + 1, l, by omega, by omega, ?_, by go_num, rfl, by go_num, ?_, HB5.out⟩
                  · show _ = _; rw [HS2.out, ← Nat.add_assoc, ← HFF.out]; simp
                  · rw [HL1.out, HC1.out]; exact HO5
                case measure => simp [intOf]; omega
          · go_wp2
            go_roundw
            case rel => exact ⟨i + 1, x, l, by omega, hln, by rw [(HSK.out hy).2]; exact HX, rfl, rfl, by go_num, by rw [(HSK.out hy).1]; exact HO, hb⟩
            case measure => simp [intOf]; omega
        · obtain rfl : i = N := by omega
          go_wp2
          go_roundw
          case rel =>
            refine ⟨n + 1, x, l, by omega, by omega, by omega, ?_, rfl, rfl, by go_num, ?_, hb⟩
            · have h1 := HX.out
              rw [HN.out, List.take_length, symsOf_len] at h1
              show _ = _
              rw [show n + 1 - l = n - l + 1 by omega, Nat.pow_succ, ← Nat.mul_assoc, h1, fst]; omega
            · have h1 := HO
              rw [HN.out, entsAt_end] at h1; exact h1
          case measure => simp [intOf]; omega
    · obtain rfl : n = 16 := by omega
      go_wp2
      go_ret
      exact ⟨_, rfl, HO.out, hb⟩
end Go.Proofs.YtgfbbcnnmoamnaaGreatDoor

namespace Go.Proofs.YtgfbbcnnmoamnaaGreatDoor
open Go.RowKit

section
variable {g : Nat} {s : ByteArray} {lim k : Nat} {o : Value} {out : List UInt8} {e : Nat}
set_option maxHeartbeats 1000000 in
set_option maxRecDepth 8000 in
/-- where it is no stream already -/
theorem rsymbol_bad (v : Value) (w : World) (h : Flo g s lim k o out e w) (he : e ≠ 0) :
    Calls Tryz.prog 244 #[.pointer (some ⟨g, 0, none⟩), v] w fun r w' => r = .returned (.int .i64 (-1)) ∧ Flo g s lim k o out e w' ∧ Step g o o w w' := by
  have h4 := h.c4
  go_enter Tryz.func244, Tryz.ntmps244
  go_wp2
  have he' : ((e : Int) == 0) = false := by simp; omega
  have HF : Hid (Flo g s lim k o out e w) := h
  have HO : Hid (orBad e = e) := by show _ = _; unfold orBad; rw [if_neg he]
  clear h he
  refine wp_loop_rounds 1 ?_
  rw [rounds_succ]
  go_wp2_with (go_at_call 195; refine (wrong_any _ HF.out).mono ?_; rintro r w1 ⟨rfl, hf1, st1⟩)
  go_ret
  rw [HO.out] at hf1
  exact ⟨rfl, hf1, st1⟩
/-- a row of codes that the reading does not own -/
def CTab (g : Nat) (v : Value) (l : List Ent) (o : Value) (w : World) : Prop := ∃ a cap, v = .slice a l.length cap ∧ ∀ j en, l[j]? = some en → ∃ b, a = some ⟨b, 0, none⟩ ∧ b ≠ g ∧ o.ownBlock ≠ some b ∧ b < w.heap.size ∧ w.cell? ⟨b, 2 * j, none⟩ = some (.int .i64 (en.sym : Int)) ∧ w.cell? ⟨b, 2 * j + 1, none⟩ = some (.string ⟨(digs en.val en.len).toArray⟩)
theorem CTab.step {v : Value} {l : List Ent} {o' : Value} {w w' : World} (t : CTab g v l o w) (st : Step g o o' w w') : CTab g v l o' w' := by
  obtain ⟨a, cap, hv, hc⟩ := t
  refine ⟨a, cap, hv, fun j en hj => ?_⟩
  obtain ⟨b, ha, h1, h2, h3, h4, h5⟩ := hc j en hj
  have hb := st.block b h3 h1 h2
  refine ⟨b, ha, h1, fun e => ?_, Nat.lt_of_lt_of_le h3 st.size, (World.cell?_of_block (w := w) hb).trans h4, (World.cell?_of_block (w := w) hb).trans h5⟩
  rcases st.moved b e with e' | e'
  · exact h2 e'
  · omega
end
end Go.Proofs.YtgfbbcnnmoamnaaGreatDoor
