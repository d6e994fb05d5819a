/- The document's Inflate. -/
import Derived.Test.YtfohjjcihioinaaGreatDoorRL
import Derived.Test.YtfohjjcihioinaaGreatDoorPU
namespace Go.Proofs.YtfohjjcihioinaaGreatDoor
open Go.RowKit

theorem blocksGo_blk1 (s : List UInt8) (limit f k : Nat) (out : List UInt8) : blocksGo s limit (f + 1) k out = match blk1 s limit k out with
    | .err e => .err e
    | .ok k2 out2 => if numAt s k 1 = 1 then .ok k2 out2 else blocksGo s limit f k2 out2 := by
  rw [blocksGo, blk1]
  split
  · rfl
  · rfl
theorem blk1_le {s : List UInt8} {limit k k2 : Nat} {out out2 : List UInt8} (h : blk1 s limit k out = .ok k2 out2) : k < k2 := by
  unfold blk1 at h
  split at h
  · have := blockS_le h; omega
  · cases h
/-- what is still to be read -/
def overLeft (g n : Nat) (v : Value) (w : World) : Nat := match v with | .bool true => 0 | _ => n + 1 - posOf g w
section
variable {g : Nat} {s : ByteArray} {lim k : Nat} {o : Value} {out : List UInt8} {e : Nat}
theorem conv_flo {w : World} (h : Flo g s lim k o out e w) : (convert 75 9 o).run Tryz.prog w = .ok (.string ⟨out.toArray⟩) w := by
  rcases h.own.2 with ⟨rfl, h0⟩ | ⟨b, cap, cur, rfl, h1, hg, h2, h3, h4, h5⟩
  · have : out = [] := List.length_eq_zero_iff.1 h0
    subst this
    exact Lib.run_convert_nil_bytes w 75 9 5 _ Tryz.underlying75 Tryz.underlying5 Tryz.underlying9
  · refine run_convert_bytes_back w 75 9 5 ⟨b, 0, none⟩ cap out Tryz.underlying75 Tryz.underlying5 Tryz.underlying9 ?_
    intro j hj
    obtain ⟨b', cap', hv, _, hc⟩ := byte_cell h.own j hj
    injection hv with hv1
    injection hv1 with hv1
    injection hv1 with hv1
    subst hv1
    rw [show (⟨b, 0, none⟩ : Addr).add j = ⟨b, j, none⟩ by simp [Addr.add]; omega, hc]
    simp [hj]
end
set_option maxHeartbeats 1000000 in
set_option maxRecDepth 8000 in
theorem refInflate_many (s : ByteArray) (lim : Int) (h : s.size > 20000 ∨ lim < 0 ∨ lim > 20000) (w : World) :
    Calls Tryz.prog 13 #[.string s, .int .i64 lim] w fun e w' => Below w.heap.size w w' ∧ e = .returned (.tuple #[.string ByteArray.empty, .int .i64 0, .int .i64 1]) := by
  go_enter Tryz.func13, Tryz.ntmps13
  rcases (by omega : 20000 < (s.size : Int) ∨ (¬ 20000 < (s.size : Int) ∧ lim < 0) ∨ (¬ 20000 < (s.size : Int) ∧ ¬ lim < 0 ∧ 20000 < lim)) with h1 | ⟨h1, h2⟩ | ⟨h1, h2, h3⟩
  all_goals
    clear h
    go_wp2
    go_ret3
    exact ⟨⟨rfl, rfl, rfl, Nat.le_refl _, fun _ _ => rfl⟩, rfl⟩
/-- the document's answer -/
def refE : Res → Ending
  | .ok k out => .returned (.tuple #[.string ⟨out.toArray⟩, .int .i64 (((k + 7) / 8 : Nat) : Int), .int .i64 0])
  | .err c => .returned (.tuple #[.string ByteArray.empty, .int .i64 0, .int .i64 (c : Int)])
set_option maxHeartbeats 1000000 in
set_option maxRecDepth 8000 in
theorem refInflate_in (s : ByteArray) (lim : Nat) (hs : s.size ≤ 20000) (hl : lim ≤ 20000) (w : World) :
    Calls Tryz.prog 13 #[.string s, .int .i64 lim] w fun e w' => Below w.heap.size w w' ∧ e = refE (inflS s.data.toList lim) := by
  obtain ⟨R, HR⟩ := hid_intro (inflS s.data.toList lim)
  rw [← HR.out]
  have hss : s.data.toList.length = s.size := by simp
  have HR0 : Hid (R = blocksGo s.data.toList lim (8 * s.size + 1) 0 []) := by show _ = _; rw [HR.out, ← hss]; rfl
  clear HR
  have d1 : decide ((20000 : Int) < (s.size : Int)) = false := decide_eq_false (by omega)
  have d2 : decide ((lim : Int) < 0) = false := decide_eq_false (by omega)
  have d3 : decide ((20000 : Int) < (lim : Int)) = false := decide_eq_false (by omega)
  go_enter Tryz.func13, Tryz.ntmps13
  go_wp2
  obtain ⟨g, HG⟩ := hid_intro w.heap.size
  obtain ⟨W, HW⟩ := hid_intro (w.alloc (.cells #[.string s, .int .i64 0, .slice none 0 0, .int .i64 (lim : Int), .int .i64 0] 77))
  rw [← HW.out, ← HG.out]
  have hf0 : Flo g s lim 0 (.slice none 0 0) [] 0 W := by
    rw [HW.out, HG.out]
    exact ⟨hs, hl, heap_alloc_new w _, ⟨by simp [Lib.byteCells], .inl ⟨rfl, rfl⟩⟩, by omega, by simp, .inl rfl⟩
  have HB0 : Hid (Below g w W) := by rw [HW.out, HG.out]; exact (Below.refl _ w).alloc (Nat.le_refl _) _
  clear d1 d2 d3 HW
  go_loopw [8] (fun vo wr => ∃ (f k c : Nat) (o' : Value) (out' : List UInt8) (bo : Bool), vo = .bool bo ∧ Flo g s lim k o' out' c wr ∧ Step g (.slice none 0 0) o' W wr ∧ ((bo = false ∧ c = 0 ∧ 8 * s.size + 1 ≤ f + k ∧ Hid (R = blocksGo s.data.toList lim f k out')) ∨ (bo = true ∧ c = 0 ∧ Hid (R = .ok k out')) ∨ (bo = true ∧ (c = 5 ∨ c = 6) ∧ Hid (R = .err c)))) (fun vo wr => overLeft g (8 * s.size) vo wr)
  case atStart => exact ⟨_, 0, 0, _, [], false, rfl, hf0, Step.refl .., .inl ⟨rfl, rfl, by omega, HR0⟩⟩
  case round =>
    clear hf0
    obtain ⟨f, k, c, o', out', bo, rfl, hF, st, hcase⟩ := hrel
    have hBW : Below g w wr := by
      have hb := HB0.out
      rw [HG.out] at hb st ⊢
      exact infl_below hb (Nat.le_refl _) st
    have HBW := (show Hid _ from hBW)
    have hpos := hF.pos
    have hk' := hF.hk
    have h4 := hF.c4
    clear hBW
    rcases hcase with ⟨rfl, rfl, hf, HRf⟩ | ⟨rfl, rfl, HRf⟩ | ⟨rfl, hc, HRf⟩
    · obtain ⟨f, rfl⟩ : ∃ f', f = f' + 1 := ⟨f - 1, by omega⟩
      have HRb : Hid _ := HRf.out
      rw [blocksGo_blk1] at HRb
      have HST := (show Hid (Step g (.slice none 0 0) o' W wr) from st)
      have HLE := (show Hid _ from fun k2 out2 => blk1_le (s := s.data.toList) (limit := lim) (k := k) (k2 := k2) (out := out') (out2 := out2))
      obtain ⟨Q, HQ⟩ := hid_intro (decide (numAt s.data.toList k 1 = 1))
      have HBK := (show Hid _ from rblock_any wr hF)
      rw [← HQ.out] at HBK
      clear hF st HRf HB0
      obtain ⟨X, HX⟩ := hid_intro (blk1 s.data.toList lim k out')
      rw [← HX.out] at HRb HBK HLE
      go_wp2_with (go_at_call 25; refine Calls.mono HBK.out ?_; rintro r w1 ⟨k2, c2, o2, out2, hf2, st2, hc2⟩; obtain ⟨bo, rfl, hc3⟩ : ∃ bo : Bool, r = .returned (.bool bo) ∧ ((c2 = 0 ∧ X = .ok k2 out2 ∧ bo = Q) ∨ ((c2 = 5 ∨ c2 = 6) ∧ X = .err c2 ∧ bo = true)) := (by rcases hc2 with ⟨a1, a2, a3⟩ | ⟨a1, a2, a3⟩; exact ⟨Q, a3, .inl ⟨a1, a2, rfl⟩⟩; exact ⟨true, a3, .inr ⟨a1, a2, rfl⟩⟩); clear hc2)
      go_roundw
      case rel =>
        refine ⟨f, k2, c2, o2, out2, bo, rfl, hf2, HST.out.trans st2, ?_⟩
        rcases hc3 with ⟨a1, a2, a3⟩ | ⟨a1, a2, a3⟩
        · have hlt := HLE.out k2 out2 a2
          have hr := HRb.out
          rw [a2] at hr
          simp only [] at hr
          cases hq : Q with
          | true =>
            rw [hq] at HQ
            rw [if_pos (of_decide_eq_true HQ.out.symm)] at hr
            exact .inr (.inl ⟨a3.trans hq, a1, hr⟩)
          | false =>
            rw [hq] at HQ
            rw [if_neg (of_decide_eq_false HQ.out.symm)] at hr
            exact .inl ⟨a3.trans hq, a1, by omega, hr⟩
        · have hr := HRb.out
          rw [a2] at hr
          exact .inr (.inr ⟨a3, a1, hr⟩)
      case measure =>
        rcases hc3 with ⟨a1, a2, a3⟩ | ⟨a1, a2, a3⟩
        · have hlt := HLE.out k2 out2 a2
          have := hf2.hk
          unfold overLeft
          rw [hf2.pos, hpos]
          cases bo with
          | true => simp only []; omega
          | false => simp only []; omega
        · rw [a3]; unfold overLeft; rw [hpos]; simp only []; omega
    · have h2 := hF.c2
      have h1 := hF.c1
      have hk := fun n => conv_flo (hF.drewN n)
      have hs2 := hF.hs
      go_wp2
      go_quiet (fail)
      go_wp2
      go_ret3
      have hb := HBW.out
      rw [HG.out] at hb
      rw [HRf.out]
      exact ⟨⟨hb.os, hb.tape, hb.output, hb.size, hb.block⟩, by first | rfl | (simp; omega)⟩
    · have hcb : ((c : Int) != 0) = true := by rw [bne_iff_ne]; omega
      go_wp2
      go_quiet (fail)
      go_wp2
      go_ret3
      have hb := HBW.out
      rw [HG.out] at hb
      rw [HRf.out]
      exact ⟨⟨hb.os, hb.tape, hb.output, hb.size, hb.block⟩, rfl⟩
end Go.Proofs.YtfohjjcihioinaaGreatDoor
