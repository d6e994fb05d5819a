/- The program's blocks. The program's row of blocks. -/
import Derived.Test.YtgfbbcnnmoamnaaGreatDoorPR
namespace Go.Proofs.YtgfbbcnnmoamnaaGreatDoor
open Go.RowKit

section
variable {er : Errs} {g : Nat} {s : ByteArray} {lim : Nat} {k : Nat} {o : Value} {out : List UInt8} {hl hd : Nat}
theorem Inf.fixedRange {w : World} (h : Inf er g s lim (CC fixedL fixedD hl hd).toList k o out w) : w.rangeAt g 4 (CC fixedL fixedD hl hd).toList := by
  have e : IB s k o lim (CC fixedL fixedD hl hd).toList = #[.string s, .int .i64 (k : Int), o, .int .i64 (lim : Int)] ++ CC fixedL fixedD hl hd ++ #[] := by
    apply Array.toList_inj.1; simp [IB]
  have hb := h.blk
  rw [e] at hb
  exact range_of_block hb
theorem ownCodes_ok {fx : List Value} {k' : Nat} {l d : List Nat} (w : World) (hi : Inf er g s lim fx k o out w) (hL : ownS s.data.toList k = some (k', l, d)) :
    Calls Tryz.prog 220 #[.pointer (some ⟨g, 0, none⟩)] w fun e w' => ∃ b1 b2, l.length ≤ 400 ∧ d.length ≤ 400 ∧ e = .returned (.tuple #[.agg (CC l d b1 b2), .nilIface]) ∧ Tab g b1 (codeSyms l) o w' ∧ Tab g b2 (codeSyms d) o w' ∧ Inf er g s lim fx k' o out w' ∧ Step g o o w w' := by
  refine (ownCodes_any w hi).mono ?_
  rintro e w' (⟨k2, l2, d2, b1, b2, h1, h2⟩ | ⟨h1, _⟩)
  · rw [hL] at h1; injection h1 with h1; injection h1 with h3 h4; injection h4 with h4 h5; subst h3; subst h4; subst h5; exact ⟨b1, b2, h2⟩
  · rw [hL] at h1; cases h1
theorem ownCodes_bad {fx : List Value} (w : World) (hi : Inf er g s lim fx k o out w) (hL : ownS s.data.toList k = none) :
    Calls Tryz.prog 220 #[.pointer (some ⟨g, 0, none⟩)] w fun e w' => ∃ b k', er.bad b ∧ e = .returned (.tuple #[.agg zeroCodes, errV b]) ∧ Inf er g s lim fx k' o out w' ∧ Step g o o w w' := by
  refine (ownCodes_any w hi).mono ?_
  rintro e w' (⟨k2, l2, d2, b1, b2, h1, h2⟩ | ⟨_, h1⟩)
  · rw [hL] at h1; cases h1
  · exact h1
theorem Outc.before {fx : List Value} {o' : Value} {w w' w'' : World} {r : Res} {e : Ending} (st : Step g o o' w w') (h : Outc er g s lim fx o' w' r e w'') : Outc er g s lim fx o w r e w'' := by
  cases r with
  | ok k2 out2 => obtain ⟨h1, o2, h2, h3⟩ := h; exact ⟨h1, o2, h2, st.trans h3⟩
  | err c => obtain ⟨b, k2, o2, out2, h1, h2, h3, h4⟩ := h; exact ⟨b, k2, o2, out2, h1, h2, h3, st.trans h4⟩
theorem Outc.shape {fx : List Value} {w w' : World} {r : Res} {e : Ending} (h : Outc er g s lim fx o w r e w') : ∃ v, e = .returned v := by
  cases r with
  | ok k2 out2 => exact ⟨_, h.1⟩
  | err c => obtain ⟨b, k2, o2, out2, h1, _⟩ := h; exact ⟨_, h1⟩
set_option maxHeartbeats 1000000 in
set_option maxRecDepth 8000 in
theorem block_any (kind : Nat) (hk4 : kind < 4) (w : World) (hi : Inf er g s lim (CC fixedL fixedD hl hd).toList k o out w) (t1 : Tab g hl (codeSyms fixedL) o w) (t2 : Tab g hd (codeSyms fixedD) o w) :
    Calls Tryz.prog 162 #[.pointer (some ⟨g, 0, none⟩), .int .i64 kind] w (Outc er g s lim (CC fixedL fixedD hl hd).toList o w (blockS s.data.toList lim kind k out)) := by
  obtain ⟨R, HR⟩ := hid_intro (blockS s.data.toList lim kind k out)
  rw [← HR.out]
  have hss : s.data.toList.length = s.size := by simp
  have hrg := hi.fixedRange
  have hsy := symbols_any (er := er) (g := g) (s := s) (lim := lim) (fx := (CC fixedL fixedD hl hd).toList) (k := k) (o := o) (out := out) fixedL fixedD (by rw [fixedL_len]; omega) (by rw [fixedD_len]; omega) hl hd w hi t1 t2
  have hsC : (CC fixedL fixedD hl hd).size = 34 := CC_size ..
  obtain ⟨C, HC⟩ := hid_intro (CC fixedL fixedD hl hd)
  rw [← HC.out] at hrg hsy hsC hi ⊢
  have HSY : Hid _ := hsy
  clear hsy t1 t2
  go_enter Tryz.func162, Tryz.ntmps162
  rcases (by omega : kind = 0 ∨ kind = 1 ∨ kind = 2 ∨ kind = 3) with rfl | rfl | rfl | rfl
  · have HE : Hid (R = storedS s.data.toList lim k out) := by rw [HR.out]; rfl
    go_wp2_with (go_at_call 218; refine (stored_any w hi).mono ?_; intro e w1 ho; obtain ⟨v, rfl⟩ := ho.shape; have HO := (show Hid _ from ho); clear ho)
    go_ret
    rw [HE.out]; exact HO.out
  · have HE : Hid (R = symsGo fixedL fixedD s.data.toList lim (8 * s.size + 1) k out) := by rw [HR.out, ← hss]; rfl
    go_wp2_with (first
      | (refine wpList_load_part rfl 185 _ rfl g 4 rfl C _ hrg Tryz.underlying185 rfl ?_ ?_; (rw [hsC]; exact sizeCodes))
      | (go_at_call 219; refine Calls.mono HSY.out ?_; intro e w1 ho; obtain ⟨v, rfl⟩ := ho.shape; have HO := (show Hid _ from ho); clear ho))
    go_ret
    rw [HE.out]; exact HO.out
  · cases hO : ownS s.data.toList k with
    | none =>
      have HE : Hid (R = .err 5) := by rw [HR.out]; show _ = _; simp only [blockS, hO]; rfl
      have HOO : Hid _ := hO
      clear hO
      go_wp2_with (first
        | (go_at_call 220; refine (ownCodes_bad w hi HOO.out).mono ?_; rintro e w1 ⟨b, k1, hb, rfl, hi1, st1⟩; unfold errV)
        | (refine wpList_store_row rfl 185 (.tmp 5) _ rfl w1.heap.size zeroCodes rfl rfl 185 _ (heap_alloc_new w1 _) sizeCodes rfl zeroCodes_one ?_; rw [World.setRow_alloc_new]))
      go_ret
      rw [HE.out]
      exact ⟨b, _, _, _, rfl, .inr ⟨rfl, hb⟩, hi1.alloc _, st1.alloc _⟩
    | some p =>
      obtain ⟨k1, l, d⟩ := p
      have HE : Hid (R = symsGo l d s.data.toList lim (8 * s.size + 1) k1 out) := by rw [HR.out, ← hss]; show _ = _; simp [blockS, hO]
      have HOO : Hid _ := hO
      clear hO
      go_wp2_with (first
        | (go_at_call 220; refine (ownCodes_ok w hi HOO.out).mono ?_; rintro e w1 ⟨b1, b2, hl1, hd1, rfl, t1, t2, hi1, st1⟩; have HT := (show Hid _ from And.intro t1 t2); clear t1 t2; have hsD : (CC l d b1 b2).size = 34 := CC_size ..; obtain ⟨D, HD⟩ := hid_intro (CC l d b1 b2); rw [← HD.out] at hsD ⊢)
        | (refine wpList_store_row rfl 185 (.tmp 5) _ rfl w1.heap.size D rfl rfl 185 _ (heap_alloc_new w1 _) ?_ ?_ ?_ ?_; (rw [hsD]; exact sizeCodes); (rw [hsD]; rfl); (rw [HD.out]; exact CC_one ..); rw [World.setRow_alloc_new]; have hbk := heap_alloc_new w1 (.cells D 185 (0, 0)); have hi2 := hi1.alloc (.cells D 185 (0, 0)); have st2 := st1.alloc (.cells D 185 (0, 0)); have HSD := (show Hid _ from symbols_any l d hl1 hd1 b1 b2 _ hi2 (HT.out.1.step ((Step.refl ..).alloc _)) (HT.out.2.step ((Step.refl ..).alloc _))); rw [← HD.out] at HSD; obtain ⟨w2, HW⟩ := hid_intro (w1.alloc (.cells D 185 (0, 0))); rw [← HW.out] at hbk hi2 st2 HSD ⊢)
        | (refine wpList_load_row rfl 185 (.tmp 5) rfl w1.heap.size rfl 185 D (0, 0) _ hbk Tryz.underlying185 rfl ?_ ?_; (rw [hsD]; exact sizeCodes))
        | (go_at_call 219; refine Calls.mono HSD.out ?_; intro e w3 ho; obtain ⟨v, rfl⟩ := ho.shape; have HO := (show Hid _ from ho); clear ho))
      go_ret
      rw [HE.out]; exact Outc.before (e := .returned v) st2 HO.out
  · have HE : Hid (R = .err 5) := by rw [HR.out]; rfl
    have he := hi.errs.kind
    go_wp2
    go_ret
    rw [HE.out]
    exact ⟨er.kind, _, _, _, rfl, .inr ⟨rfl, by simp [Errs.bad]⟩, hi, Step.refl ..⟩
end
end Go.Proofs.YtgfbbcnnmoamnaaGreatDoor

namespace Go.Proofs.YtgfbbcnnmoamnaaGreatDoor
open Go.RowKit

theorem symsGo_le (ll dl : List Nat) (s : List UInt8) (limit : Nat) : ∀ (f k : Nat) (out : List UInt8) (k' : Nat) (out' : List UInt8), symsGo ll dl s limit f k out = .ok k' out' → k ≤ k'
  | 0, k, out, k', out', h => by rw [symsGo] at h; cases h
  | f + 1, k, out, k', out', h => by
    cases hD : dec ll s k with
    | none => rw [symsGo_none hD] at h; cases h
    | some p =>
      obtain ⟨x, k2⟩ := p
      have hd := dec_le hD
      by_cases hx : x < 256
      · rw [symsGo_lit hD hx] at h
        split at h
        · cases h
        · have := symsGo_le ll dl s limit f _ _ _ _ h; omega
      · by_cases h6 : x = 256
        · subst h6; rw [symsGo_end hD] at h; injection h with h1; omega
        · cases hr : repS dl s limit x k2 out with
          | err e => rw [symsGo_bad hD (by omega) hr] at h; cases h
          | ok k3 out3 =>
            rw [symsGo_rep hD (by omega) hr] at h
            have := repS_le hr
            have := symsGo_le ll dl s limit f _ _ _ _ h; omega
theorem rawGo_le (s : List UInt8) (limit : Nat) : ∀ (n k : Nat) (out : List UInt8) (k' : Nat) (out' : List UInt8), rawGo s limit n k out = .ok k' out' → k ≤ k'
  | 0, k, out, k', out', h => by rw [rawGo] at h; injection h with h1; omega
  | n + 1, k, out, k', out', h => by
    rw [rawGo] at h
    split at h
    · split at h
      · cases h
      · have := rawGo_le s limit n _ _ _ _ h; omega
    · cases h
theorem storedS_le {s : List UInt8} {limit k : Nat} {out : List UInt8} {k' : Nat} {out' : List UInt8} (h : storedS s limit k out = .ok k' out') : k ≤ k' := by
  unfold storedS at h
  split at h
  · split at h
    · have := rawGo_le _ _ _ _ _ _ _ h; omega
    · cases h
  · cases h
theorem rowGo_at (c : List Nat) (s : List UInt8) (many : Nat) : ∀ (f k : Nat) (row : List Nat) (k' : Nat) (row' : List Nat), rowGo c s many f k row = some (k', row') → k ≤ k'
  | 0, k, row, k', row', h => by rw [rowGo] at h; cases h
  | f + 1, k, row, k', row', h => by
    rw [rowGo] at h
    split at h
    · cases hD : dec c s k with
      | none => rw [hD] at h; cases h
      | some p =>
        obtain ⟨x, k2⟩ := p
        have hd := dec_le hD
        rw [hD] at h
        simp only [] at h
        split at h
        · have := rowGo_at c s many f _ _ _ _ h; omega
        · split at h
          · split at h
            · cases h
            · split at h
              · have := rowGo_at c s many f _ _ _ _ h; omega
              · cases h
          · split at h
            · split at h
              · have := rowGo_at c s many f _ _ _ _ h; omega
              · cases h
            · split at h
              · have := rowGo_at c s many f _ _ _ _ h; omega
              · cases h
    · split at h
      · injection h with h; injection h with h1; omega
      · cases h
theorem ownS_le {s : List UInt8} {k k' : Nat} {l d : List Nat} (h : ownS s k = some (k', l, d)) : k ≤ k' := by
  unfold ownS at h
  split at h
  · split at h
    · cases h
    · split at h
      · split at h
        · split at h
          · cases h
          · rename_i hr
            have := rowGo_at _ _ _ _ _ _ _ _ hr
            split at h
            · cases h
            · injection h with h; injection h with h1; omega
        · cases h
      · cases h
  · cases h
theorem blockS_le {s : List UInt8} {limit kind k : Nat} {out : List UInt8} {k' : Nat} {out' : List UInt8} (h : blockS s limit kind k out = .ok k' out') : k ≤ k' := by
  unfold blockS at h
  split at h
  · exact storedS_le h
  · split at h
    · exact symsGo_le _ _ _ _ _ _ _ _ _ h
    · split at h
      · split at h
        · cases h
        · rename_i ho
          have := ownS_le ho
          have := symsGo_le _ _ _ _ _ _ _ _ _ h
          omega
      · cases h
section
variable {er : Errs} {g : Nat} {s : ByteArray} {lim : Nat} {k : Nat} {o : Value} {out : List UInt8} {hl hd : Nat}
theorem block_good (kind : Nat) (hk4 : kind < 4) {k2 : Nat} {out2 : List UInt8} (w : World) (hi : Inf er g s lim (CC fixedL fixedD hl hd).toList k o out w) (t1 : Tab g hl (codeSyms fixedL) o w) (t2 : Tab g hd (codeSyms fixedD) o w) (h : blockS s.data.toList lim kind k out = .ok k2 out2) :
    Calls Tryz.prog 162 #[.pointer (some ⟨g, 0, none⟩), .int .i64 kind] w fun e w' => e = .returned .nilIface ∧ ∃ o', Inf er g s lim (CC fixedL fixedD hl hd).toList k2 o' out2 w' ∧ Step g o o' w w' := by
  refine (block_any kind hk4 w hi t1 t2).mono ?_
  intro e w' ho
  rw [h] at ho; exact ho
theorem block_bad (kind : Nat) (hk4 : kind < 4) {c : Nat} (w : World) (hi : Inf er g s lim (CC fixedL fixedD hl hd).toList k o out w) (t1 : Tab g hl (codeSyms fixedL) o w) (t2 : Tab g hd (codeSyms fixedD) o w) (h : blockS s.data.toList lim kind k out = .err c) :
    Calls Tryz.prog 162 #[.pointer (some ⟨g, 0, none⟩), .int .i64 kind] w fun e w' => ∃ b k' o' out', e = .returned (errV b) ∧ (c = 6 ∧ b = er.lim ∨ c = 5 ∧ er.bad b) ∧ Inf er g s lim (CC fixedL fixedD hl hd).toList k' o' out' w' ∧ Step g o o' w w' := by
  refine (block_any kind hk4 w hi t1 t2).mono ?_
  intro e w' ho
  rw [h] at ho; exact ho
set_option maxHeartbeats 1000000 in
set_option maxRecDepth 8000 in
theorem blocks_any (w : World) (hi : Inf er g s lim (CC fixedL fixedD hl hd).toList k o out w) (t1 : Tab g hl (codeSyms fixedL) o w) (t2 : Tab g hd (codeSyms fixedD) o w) :
    Calls Tryz.prog 103 #[.pointer (some ⟨g, 0, none⟩)] w (Outc er g s lim (CC fixedL fixedD hl hd).toList o w (blocksGo s.data.toList lim (8 * s.size + 1) k out)) := by
  obtain ⟨R, HR⟩ := hid_intro (blocksGo s.data.toList lim (8 * s.size + 1) k out)
  rw [← HR.out]
  have hss : s.data.toList.length = s.size := by simp
  go_enter Tryz.func103, Tryz.ntmps103
  go_wp2
  go_loopw [] (fun wr => ∃ (f k' : Nat) (o' : Value) (out' : List UInt8), 8 * s.size + 1 ≤ f + k' ∧ Hid (R = blocksGo s.data.toList lim f k' out') ∧ Inf er g s lim (CC fixedL fixedD hl hd).toList k' o' out' wr ∧ Step g o o' w wr) (fun wr => 8 * s.size - posOf g wr)
  case atStart => exact ⟨_, k, o, out, by omega, HR, hi, Step.refl ..⟩
  case round =>
    obtain ⟨f, k', o', out', hf, HRf, hi, st⟩ := hrel
    obtain ⟨f, rfl⟩ : ∃ f', f = f' + 1 := ⟨f - 1, by have := hi.hk; omega⟩
    have hpos := hi.pos
    have hle := hi.hk
    by_cases h1 : k' < 8 * s.size
    · have lb := bitAt_lt s.data.toList k'
      have lk := numAt_lt s.data.toList (k' + 1) 2
      have HB1 : Hid (numAt s.data.toList k' 1 = bitAt s.data.toList k') := by show _ = _; simp [numAt]
      obtain ⟨B, HB⟩ := hid_intro (bitAt s.data.toList k')
      obtain ⟨kind, HK⟩ := hid_intro (numAt s.data.toList (k' + 1) 2)
      rw [← HB.out] at lb HB1
      rw [← HK.out] at lk
      by_cases h3 : k' + 1 + 2 ≤ 8 * s.size
      · have hE : R = match blockS s.data.toList lim kind (k' + 3) out' with
          | .err e => .err e
          | .ok k2 out2 => if B = 1 then .ok k2 out2 else blocksGo s.data.toList lim f k2 out2 := by
          rw [HRf.out, blocksGo, if_pos (show has s.data.toList k' 3 by unfold has; omega), ← HK.out, HB1.out]
          cases blockS s.data.toList lim kind (k' + 3) out' <;> rfl
        cases hS : blockS s.data.toList lim kind (k' + 3) out' with
        | err c =>
          have HE : Hid (R = .err c) := by rw [hS] at hE; exact hE
          have HS : Hid _ := hS
          clear hS hE
          go_wp2_with (first
            | (go_at_call 160; refine (bit_ok _ hi h1).mono ?_; rintro e w1 ⟨rfl, hi1, st1⟩; rw [← HB.out])
            | (go_at_call 161; refine (number_ok 2 (by omega) _ hi1 h3).mono ?_; rintro e w2 ⟨rfl, hi2, st2⟩; rw [← HK.out])
            | (go_at_call 162; refine (block_bad kind (by omega) _ hi2 (t1.step ((st.trans st1).trans st2)) (t2.step ((st.trans st1).trans st2)) HS.out).mono ?_; rintro e w3 ⟨b, k3, o3, out3, rfl, hc, hi3, st3⟩; have HCc := (show Hid _ from hc); clear hc; unfold errV))
          go_ret
          rw [HE.out]
          exact ⟨b, _, _, _, rfl, HCc.out, hi3, ((st.trans st1).trans st2).trans st3⟩
        | ok k2 out2 =>
          have hlt := blockS_le hS
          have HS : Hid _ := hS
          rw [hS] at hE
          clear hS
          rcases (by omega : B = 0 ∨ B = 1) with rfl | rfl
          · have HE : Hid (R = blocksGo s.data.toList lim f k2 out2) := hE
            clear hE
            go_wp2_with (first
              | (go_at_call 160; refine (bit_ok _ hi h1).mono ?_; rintro e w1 ⟨rfl, hi1, st1⟩; rw [← HB.out])
              | (go_at_call 161; refine (number_ok 2 (by omega) _ hi1 h3).mono ?_; rintro e w2 ⟨rfl, hi2, st2⟩; rw [← HK.out])
              | (go_at_call 162; refine (block_good kind (by omega) _ hi2 (t1.step ((st.trans st1).trans st2)) (t2.step ((st.trans st1).trans st2)) HS.out).mono ?_; rintro e w3 ⟨rfl, o3, hi3, st3⟩))
            have hk3 := hi3.hk
            refine ⟨?_, by rw [hi3.pos, hpos]; omega⟩
            exact ⟨f, k2, o3, out2, by omega, HE, hi3, ((st.trans st1).trans st2).trans st3⟩
          · have HE : Hid (R = .ok k2 out2) := hE
            clear hE
            go_wp2_with (first
              | (go_at_call 160; refine (bit_ok _ hi h1).mono ?_; rintro e w1 ⟨rfl, hi1, st1⟩; rw [← HB.out])
              | (go_at_call 161; refine (number_ok 2 (by omega) _ hi1 h3).mono ?_; rintro e w2 ⟨rfl, hi2, st2⟩; rw [← HK.out])
              | (go_at_call 162; refine (block_good kind (by omega) _ hi2 (t1.step ((st.trans st1).trans st2)) (t2.step ((st.trans st1).trans st2)) HS.out).mono ?_; rintro e w3 ⟨rfl, o3, hi3, st3⟩))
            go_ret
            rw [HE.out]
            exact ⟨rfl, _, hi3, ((st.trans st1).trans st2).trans st3⟩
      · have HE : Hid (R = .err 5) := by rw [HRf.out]; show _ = _; rw [blocksGo, if_neg (show ¬ has s.data.toList k' 3 by unfold has; omega)]
        go_wp2_with (first
          | (go_at_call 160; refine (bit_ok _ hi h1).mono ?_; rintro e w1 ⟨rfl, hi1, st1⟩; rw [← HB.out])
          | (go_at_call 161; refine (number_end 2 (by omega) _ hi1 h3).mono ?_; rintro e w2 ⟨rfl, hi2, st2⟩; unfold errV))
        go_ret
        rw [HE.out]
        exact ⟨er.short, _, _, _, rfl, .inr ⟨rfl, by simp [Errs.bad]⟩, hi2, (st.trans st1).trans st2⟩
    · have HE : Hid (R = .err 5) := by rw [HRf.out]; show _ = _; rw [blocksGo, if_neg (show ¬ has s.data.toList k' 3 by unfold has; omega)]
      go_wp2_with (go_at_call 160; refine (bit_end _ hi (by omega)).mono ?_; rintro e w1 ⟨rfl, hi1, st1⟩; unfold errV)
      go_ret
      rw [HE.out]
      exact ⟨er.short, _, _, _, rfl, .inr ⟨rfl, by simp [Errs.bad]⟩, hi1, st.trans st1⟩
end
end Go.Proofs.YtgfbbcnnmoamnaaGreatDoor
