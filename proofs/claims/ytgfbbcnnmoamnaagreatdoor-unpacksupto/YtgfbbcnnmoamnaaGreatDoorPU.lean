/- The program's Inflate. The program's Inflate, out of bounds. -/
import Derived.Test.YtgfbbcnnmoamnaaGreatDoorPS
import Derived.Lib.BufferRead
namespace Go.Proofs.YtgfbbcnnmoamnaaGreatDoor
open Go.RowKit

theorem build_infl (a b : List Nat) (ha : a.length = 16) (hb : b.length = 16) (x y : Value) (_hx : x.cells = #[x]) (_hy : y.cells = #[y]) (s : ByteArray) (lim : Int) : Tryz.prog.built 188 [(0, .agg #[.string s, .int .i64 0]), (2, .int .i64 lim), (3, .agg ((rowi a).push x ++ (rowi b).push y))] = some ((Value.string s :: .int .i64 0 :: .slice none 0 0 :: .int .i64 lim :: ((rowi a).push x ++ (rowi b).push y).toList).toArray) := by
  obtain ⟨a0, a1, a2, a3, a4, a5, a6, a7, a8, a9, a10, a11, a12, a13, a14, a15, rfl⟩ := len16 a ha
  obtain ⟨b0, b1, b2, b3, b4, b5, b6, b7, b8, b9, b10, b11, b12, b13, b14, b15, rfl⟩ := len16 b hb
  kernel_rfl
theorem IB_built (s : ByteArray) (lim : Nat) (ll dl : List Nat) (hl hd : Nat) : Tryz.prog.built 188 [(0, .agg #[.string s, .int .i64 0]), (2, .int .i64 lim), (3, .agg (CC ll dl hl hd))] = some (IB s 0 (.slice none 0 0) lim (CC ll dl hl hd).toList) := build_infl _ _ (cntsL_len ll) (cntsL_len dl) _ _ rfl rfl s lim
theorem IB_size (s : ByteArray) (k : Nat) (o : Value) (lim : Nat) (fx : List Value) : (IB s k o lim fx).size = 4 + fx.length := by simp [IB]; omega
theorem IB_one (s : ByteArray) (k : Nat) (o : Value) (ho : o.oneCell' = true) (lim : Nat) (fx : List Value) (h : fx.all (·.oneCell') = true) : (IB s k o lim fx).all (·.oneCell') = true := by
  rw [← Array.all_toList]; simp only [IB, List.all_cons, h, ho]; rfl
section
variable {er : Errs} {g : Nat} {s : ByteArray} {lim : Nat} {k : Nat} {o : Value} {out : List UInt8} {hl hd : Nat}
theorem conv_own {fx : List Value} {w : World} (h : Inf er g s lim fx k o out w) : (convert 66 9 o).run Tryz.prog w = .ok (.string ⟨out.toArray⟩) w := by
  rcases h.own.2 with ⟨rfl, h0⟩ | ⟨b, cap, cur, rfl, h1, hg, h2, h3, h4, h5⟩
  · have : out = [] := List.length_eq_zero_iff.1 h0
    subst this
    exact Lib.run_convert_nil_bytes w 66 9 5 _ Tryz.underlying66 Tryz.underlying5 Tryz.underlying9
  · refine run_convert_bytes_back w 66 9 5 ⟨b, 0, none⟩ cap out Tryz.underlying66 Tryz.underlying5 Tryz.underlying9 ?_
    intro j hj
    obtain ⟨b', cap', hv, _, hc⟩ := byte_cell h.own j hj
    injection hv with hv1
    injection hv1 with hv1
    injection hv1 with hv1
    subst hv1
    rw [show (⟨b, 0, none⟩ : Addr).add j = ⟨b, j, none⟩ by simp [Addr.add]; omega, hc]
    simp [hj]
theorem blocks_good {k2 : Nat} {out2 : List UInt8} (w : World) (hi : Inf er g s lim (CC fixedL fixedD hl hd).toList k o out w) (t1 : Tab g hl (codeSyms fixedL) o w) (t2 : Tab g hd (codeSyms fixedD) o w) (h : blocksGo s.data.toList lim (8 * s.size + 1) k out = .ok k2 out2) :
    Calls Tryz.prog 103 #[.pointer (some ⟨g, 0, none⟩)] w fun e w' => e = .returned .nilIface ∧ ∃ o', Inf er g s lim (CC fixedL fixedD hl hd).toList k2 o' out2 w' ∧ Step g o o' w w' := by
  refine (blocks_any w hi t1 t2).mono ?_
  intro e w' ho
  rw [h] at ho; exact ho
theorem blocks_bad {c : Nat} (w : World) (hi : Inf er g s lim (CC fixedL fixedD hl hd).toList k o out w) (t1 : Tab g hl (codeSyms fixedL) o w) (t2 : Tab g hd (codeSyms fixedD) o w) (h : blocksGo s.data.toList lim (8 * s.size + 1) k out = .err c) :
    Calls Tryz.prog 103 #[.pointer (some ⟨g, 0, none⟩)] w fun e w' => ∃ b k' o' out', e = .returned (errV b) ∧ (c = 6 ∧ b = er.lim ∨ c = 5 ∧ er.bad b) ∧ Inf er g s lim (CC fixedL fixedD hl hd).toList k' o' out' w' ∧ Step g o o' w w' := by
  refine (blocks_any w hi t1 t2).mono ?_
  intro e w' ho
  rw [h] at ho; exact ho
theorem infl_below {w w2 w3 : World} {g : Nat} {o3 : Value} (hb : Below w.heap.size w w2) (hg : w.heap.size ≤ g) (st : Step g (.slice none 0 0) o3 w2 w3) : Below w.heap.size w w3 :=
  ⟨st.os.trans hb.os, st.tape.trans hb.tape, st.output.trans hb.output, Nat.le_trans hb.size st.size, fun k hk => (st.block k (Nat.lt_of_lt_of_le hk hb.size) (by omega) (by intro h; cases h)).trans (hb.block k hk)⟩
theorem Inf.start {w w1 : World} (he : er.At w) (hb : Below w.heap.size w w1) (hs : s.size ≤ 20000) (hl : lim ≤ 20000) (fx : List Value) : Inf er w1.heap.size s lim fx 0 (.slice none 0 0) [] (w1.alloc (.cells (IB s 0 (.slice none 0 0) lim fx) 188 (0, 0))) := by
  have z := hb.size
  have z0 := he.size
  exact ⟨(he.below hb z0).below ((Below.refl _ w1).alloc (Nat.le_refl _) _) (by omega), by omega, hs, hl, heap_alloc_new w1 _, ⟨by simp [Lib.byteCells], .inl ⟨rfl, rfl⟩⟩, by omega, by simp⟩
set_option maxHeartbeats 1000000 in
set_option maxRecDepth 8000 in
theorem sInflate_in (s : ByteArray) (lim : Nat) (hs : s.size ≤ 20000) (hl : lim ≤ 20000) (w : World) (he : er.At w) :
    Calls Tryz.prog 37 #[.string s, .int .i64 lim] w fun e w' => Below w.heap.size w w' ∧
      match inflS s.data.toList lim with
      | .ok k out => e = .returned (.tuple #[.string ⟨out.toArray⟩, .int .i64 (((k + 7) / 8 : Nat) : Int), .nilIface])
      | .err c => ∃ b k f, w.heap.size ≤ f ∧ e = .returned (.tuple #[.string ByteArray.empty, .int .i64 0, .iface 75 (.pointer (some ⟨f, 0, none⟩))]) ∧ w'.heap[f]? = some (.cells #[.int .i64 (k : Nat), errV b] 191 (0, 0)) ∧ (c = 6 ∧ b = er.lim ∨ c = 5 ∧ er.bad b) := by
  obtain ⟨R, HR⟩ := hid_intro (inflS s.data.toList lim)
  rw [← HR.out]
  have hss : s.data.toList.length = s.size := by simp
  go_enter Tryz.func37, Tryz.ntmps37
  have hR0 : blocksGo s.data.toList lim (8 * s.size + 1) 0 [] = R := by rw [HR.out, ← hss]; rfl
  clear HR
  cases R with
  | err c =>
    have HR0 : Hid _ := hR0
    clear hR0
    go_wp2_with (first
      | (go_at_call 102; refine (fixedCodes_any _).mono ?_; rintro e w1 ⟨cl, cd, rfl, hl1, hd1, hl2, hd2, hb1⟩; have z1 := hb1.size; have HT := (show Hid _ from And.intro hl2 hd2); have HB := (show Hid (Below w.heap.size w w1) from hb1); clear hb1 hl2 hd2; have hsC : (CC fixedL fixedD cl cd).size = 34 := CC_size ..; have HBU := (show Hid _ from IB_built s lim fixedL fixedD cl cd); obtain ⟨C, HC⟩ := hid_intro (CC fixedL fixedD cl cd); rw [← HC.out] at hsC HBU ⊢)
      | (refine wpList_buildTo rfl 188 _ rfl _ rfl (IB s 0 (.slice none 0 0) lim C.toList) ?_ ?_; (simp only [List.map_toArray, List.map_cons, List.map_nil]; exact HBU.out); obtain ⟨I, HI⟩ := hid_intro (IB s 0 (.slice none 0 0) lim C.toList); rw [← HI.out])
      | (refine wpList_store_row rfl 188 (.tmp 7) _ rfl w1.heap.size I rfl rfl 188 _ (heap_alloc_new w1 _) ?_ ?_ ?_ ?_; (rw [HI.out, IB_size, Array.length_toList, hsC]; exact sizeInfl); (rw [HI.out, IB_size, Array.length_toList, hsC]; rfl); (rw [HI.out]; refine IB_one _ _ _ rfl _ _ ?_; rw [Array.all_toList, HC.out]; exact CC_one ..); rw [World.setRow_alloc_new]; have hi0 := (show Inf er w1.heap.size s lim C.toList 0 (.slice none 0 0) [] (w1.alloc (.cells I 188 (0, 0))) from by rw [HI.out]; exact Inf.start he HB.out hs hl _); have HTT := (show Hid (Tab w1.heap.size cl (codeSyms fixedL) (.slice none 0 0) (w1.alloc (.cells I 188 (0, 0))) ∧ Tab w1.heap.size cd (codeSyms fixedD) (.slice none 0 0) (w1.alloc (.cells I 188 (0, 0)))) from ⟨⟨alloc_keeps HT.out.1, by have := lt_of_block HT.out.1; omega, by intro h; cases h⟩, ⟨alloc_keeps HT.out.2, by have := lt_of_block HT.out.2; omega, by intro h; cases h⟩⟩); have HB2 := (show Hid (Below w.heap.size w (w1.alloc (.cells I 188 (0, 0)))) from HB.out.trans ((Below.refl _ w1).alloc z1 _)); obtain ⟨w2, HW⟩ := hid_intro (w1.alloc (.cells I 188 (0, 0))); rw [← HW.out] at hi0 HTT HB2 ⊢)
      | (go_at_call 103; rw [HC.out] at hi0; refine (blocks_bad _ hi0 HTT.out.1 HTT.out.2 HR0.out).mono ?_; rintro e w3 ⟨b, k3, o3, out3, rfl, hc, hi3, st3⟩; have HCc := (show Hid _ from hc); clear hc; unfold errV; have h1 := hi3.c1))
    go_region
    go_wp2
    go_ret3
    refine ⟨?_, b, k3, w3.heap.size, ?_, rfl, heap_alloc_new w3 _, HCc.out⟩
    · exact (infl_below HB2.out z1 st3).trans (((Below.refl _ w3).alloc (Nat.le_trans HB2.out.size st3.size) _).drew)
    · exact Nat.le_trans HB2.out.size st3.size
  | ok k out =>
    have HR0 : Hid _ := hR0
    clear hR0
    go_wp2_with (first
      | (go_at_call 102; refine (fixedCodes_any _).mono ?_; rintro e w1 ⟨cl, cd, rfl, hl1, hd1, hl2, hd2, hb1⟩; have z1 := hb1.size; have HT := (show Hid _ from And.intro hl2 hd2); have HB := (show Hid (Below w.heap.size w w1) from hb1); clear hb1 hl2 hd2; have hsC : (CC fixedL fixedD cl cd).size = 34 := CC_size ..; have HBU := (show Hid _ from IB_built s lim fixedL fixedD cl cd); obtain ⟨C, HC⟩ := hid_intro (CC fixedL fixedD cl cd); rw [← HC.out] at hsC HBU ⊢)
      | (refine wpList_buildTo rfl 188 _ rfl _ rfl (IB s 0 (.slice none 0 0) lim C.toList) ?_ ?_; (simp only [List.map_toArray, List.map_cons, List.map_nil]; exact HBU.out); obtain ⟨I, HI⟩ := hid_intro (IB s 0 (.slice none 0 0) lim C.toList); rw [← HI.out])
      | (refine wpList_store_row rfl 188 (.tmp 7) _ rfl w1.heap.size I rfl rfl 188 _ (heap_alloc_new w1 _) ?_ ?_ ?_ ?_; (rw [HI.out, IB_size, Array.length_toList, hsC]; exact sizeInfl); (rw [HI.out, IB_size, Array.length_toList, hsC]; rfl); (rw [HI.out]; refine IB_one _ _ _ rfl _ _ ?_; rw [Array.all_toList, HC.out]; exact CC_one ..); rw [World.setRow_alloc_new]; have hi0 := (show Inf er w1.heap.size s lim C.toList 0 (.slice none 0 0) [] (w1.alloc (.cells I 188 (0, 0))) from by rw [HI.out]; exact Inf.start he HB.out hs hl _); have HTT := (show Hid (Tab w1.heap.size cl (codeSyms fixedL) (.slice none 0 0) (w1.alloc (.cells I 188 (0, 0))) ∧ Tab w1.heap.size cd (codeSyms fixedD) (.slice none 0 0) (w1.alloc (.cells I 188 (0, 0)))) from ⟨⟨alloc_keeps HT.out.1, by have := lt_of_block HT.out.1; omega, by intro h; cases h⟩, ⟨alloc_keeps HT.out.2, by have := lt_of_block HT.out.2; omega, by intro h; cases h⟩⟩); have HB2 := (show Hid (Below w.heap.size w (w1.alloc (.cells I 188 (0, 0)))) from HB.out.trans ((Below.refl _ w1).alloc z1 _)); obtain ⟨w2, HW⟩ := hid_intro (w1.alloc (.cells I 188 (0, 0))); rw [← HW.out] at hi0 HTT HB2 ⊢)
      | (go_at_call 103; rw [HC.out] at hi0; refine (blocks_good _ hi0 HTT.out.1 HTT.out.2 HR0.out).mono ?_; rintro e w3 ⟨rfl, o3, hi3, st3⟩; have h2 := hi3.c2; have hk := fun n => conv_own (hi3.drewN n)))
    go_quiet (first | (go_at_call 104; refine Calls.quiet_of_same (used_any _ (hi3.drewN _))))
    go_wp2
    go_ret3
    have hb3 := infl_below HB2.out z1 st3
    exact ⟨⟨hb3.os, hb3.tape, hb3.output, hb3.size, hb3.block⟩, rfl⟩
end
end Go.Proofs.YtgfbbcnnmoamnaaGreatDoor

namespace Go.Proofs.YtgfbbcnnmoamnaaGreatDoor
open Go.RowKit

set_option maxHeartbeats 1000000 in
set_option maxRecDepth 8000 in
theorem sInflate_many {er : Errs} (s : ByteArray) (lim : Int) (h : s.size > 20000 ∨ lim < 0 ∨ lim > 20000) (w : World) (he : er.At w) :
    Calls Tryz.prog 37 #[.string s, .int .i64 lim] w fun e w' => Below w.heap.size w w' ∧ e = .returned (.tuple #[.string ByteArray.empty, .int .i64 0, errV er.many]) := by
  have hm := he.many
  unfold errV at hm ⊢
  go_enter Tryz.func37, Tryz.ntmps37
  rcases (by omega : 20000 < (s.size : Int) ∨ (¬ 20000 < (s.size : Int) ∧ lim < 0) ∨ (¬ 20000 < (s.size : Int) ∧ ¬ lim < 0 ∧ 20000 < lim)) with h1 | ⟨h1, h2⟩ | ⟨h1, h2, h3⟩
  all_goals
    clear h
    go_wp2
    go_region
    go_wp2
    go_ret3
    exact ⟨⟨rfl, rfl, rfl, Nat.le_refl _, fun _ _ => rfl⟩, rfl⟩
end Go.Proofs.YtgfbbcnnmoamnaaGreatDoor
