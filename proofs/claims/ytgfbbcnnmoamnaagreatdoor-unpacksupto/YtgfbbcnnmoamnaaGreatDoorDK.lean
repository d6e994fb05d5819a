/- The program's new finder; its block of bytes as they are. The program's block of the fixed codes. The program's Deflate. -/
import Derived.Test.YtgfbbcnnmoamnaaGreatDoorDI
import Derived.Lib.AppendStr
import Derived.Test.YtgfbbcnnmoamnaaGreatDoorPU
import Derived.Test.YtgfbbcnnmoamnaaGreatDoorPY
namespace Go.Proofs.YtgfbbcnnmoamnaaGreatDoor
open Go.RowKit Go.Maps

set_option maxHeartbeats 1000000 in
set_option maxRecDepth 8000 in
theorem newFinder_any (s : ByteArray) (hs : s.size ≤ 20000) (w : World) :
    Calls Tryz.prog 52 #[.string s] w fun e w' => e = .returned (.pointer (some ⟨w.heap.size + 2, 0, none⟩)) ∧ Fnd (w.heap.size + 2) w.heap.size (w.heap.size + 1) s 0 w' ∧ Below w.heap.size w w' := by
  have hmm := @run_makeMap Tryz.prog
  have mk := fun w => make_int s.size (s.size : Int) rfl (by omega) w
  go_enter Tryz.func52, Tryz.ntmps52
  go_wp2
  go_ret
  refine ⟨rfl, ⟨hs, by omega, by omega, by omega, ?_, ?_, 0, .map [], by omega, by omega, ⟨_, rfl⟩, ?_, fun t => rfl⟩, ?_⟩
  · have := heap_alloc_new ((w.alloc (.map #[] 0)).alloc (.cells (rowi (List.replicate s.size 0)) 3 (0, 0))) (.cells #[.string s, .map (some w.heap.size), .slice (some ⟨w.heap.size + 1, 0, none⟩) s.size s.size] 206)
    simpa using this
  · rw [befs_zero]
    have h1 := heap_alloc_new (w.alloc (.map #[] 0)) (.cells (rowi (List.replicate s.size 0)) 3 (0, 0))
    have h2 := alloc_keeps (o' := .cells #[.string s, .map (some w.heap.size), .slice (some ⟨w.heap.size + 1, 0, none⟩) s.size s.size] 206) h1
    simpa using h2
  · exact ((World.ownsMap_made w Tryz.prog 208 (plainElem (H := Unit) Tryz.prog 3)).alloc _).alloc _
  · exact (((Below.refl _ w).alloc (Nat.le_refl _) _).alloc (by simp) _).alloc (by simp; omega) _
theorem _root_.Go.World.ownsRow.weakD {w : World} {B B' n z : Nat} {v : Value} {xs : List Value} {t : TypeId} (h : w.ownsRow B t z v n xs) (hB : B' ≤ B) : w.ownsRow B' t z v n xs := by
  refine ⟨h.1, ?_⟩
  rcases h.2 with hn | ⟨g, cap, cur, rfl, h1, rest⟩
  · exact .inl hn
  · exact .inr ⟨g, cap, cur, rfl, Nat.le_trans hB h1, rest⟩
/-- the head of a block of bytes as they are -/
def HdrOf (L hdr : List UInt8) : Prop := hdr.length = 5 ∧ BitsAt hdr 0 ([1] ++ ([0, 0] ++ (numBits 0 5 ++ (numBits L.length 16 ++ numBits (65535 - L.length) 16))))
theorem grown_last {g : Nat} {o : Value} {w w1 w2 : World} (st : Step g (.slice none 0 0) o w w1) (hg : w1.grownBy w2 o.ownBlock) (W : World) (hb : Below W.heap.size W w) (hgW : W.heap.size ≤ g) : Below W.heap.size W w2 :=
  ⟨hg.os.trans (st.os.trans hb.os), hg.tape.trans (st.tape.trans hb.tape), hg.output.trans (st.output.trans hb.output), Nat.le_trans hb.size (Nat.le_trans st.size hg.size), fun k hk => by
    have hkw : k < w.heap.size := Nat.lt_of_lt_of_le hk hb.size
    refine (hg.block k (Nat.lt_of_lt_of_le hkw st.size) (fun e => ?_)).trans ((st.block k hkw (by omega) (by intro h; cases h)).trans (hb.block k hk))
    rcases st.moved k e.symm with e' | e'
    · cases e'
    · omega⟩
theorem BW.start (w : World) (T : TypeId) (rest : List Value) : BW w.heap.size T rest [] (.slice none 0 0) (w.alloc (.cells (.slice none 0 0 :: .int .i64 0 :: rest).toArray T)) :=
  ⟨[], Wrote.nil, ⟨heap_alloc_new w _, ⟨by simp [Lib.byteCells], .inl ⟨rfl, rfl⟩⟩, by simp, by simp⟩⟩
set_option maxHeartbeats 1000000 in
set_option maxRecDepth 8000 in
theorem storedBlock_any (s : ByteArray) (hs : s.size ≤ 20000) (w : World) :
    Calls Tryz.prog 19 #[.string s] w fun e w' => ∃ v hdr, e = .returned v ∧ HdrOf s.data.toList hdr ∧ w'.ownsRow w.heap.size 5 1 v (hdr ++ s.data.toList).length (Lib.byteCells (hdr ++ s.data.toList)) ∧ Below w.heap.size w w' := by
  have hss : s.data.toList.length = s.size := by simp
  obtain ⟨i0, hi0, hz0, hz1, hz2⟩ := info_parts infoU8
  have hx := turned16 s.size (by omega)
  go_enter Tryz.func19, Tryz.ntmps19
  obtain ⟨g, HG⟩ := hid_intro w.heap.size
  have hb0 := BW.start w 113 []
  have st0 : Below w.heap.size w (w.alloc (.cells ([.slice none 0 0, .int .i64 0] : List Value).toArray 113)) := (Below.refl _ w).alloc (Nat.le_refl _) _
  have HS0 := (show Hid _ from st0)
  clear st0
  rw [← HG.out] at hb0
  have hl : ∀ v n, (numBits v n).length = n := numBits_len
  have HLn := (show Hid _ from hl)
  clear hl
  go_wp2_with (first
    | (go_at_call 51; rw [← HG.out]; refine (wnumber_v 1 1 (by omega) (by omega) _ hb0 (by simp) (by omega)).mono ?_; rintro e w1 ⟨rfl, o1, hb1, st1⟩; clear hb0)
    | (go_at_call 51; refine (wnumber_v 0 2 (by omega) (by omega) _ hb1 (by simp [HLn.out]) (by omega)).mono ?_; rintro e w2 ⟨rfl, o2, hb2, st2⟩; clear hb1)
    | (go_at_call 51; refine (wnumber_v 0 5 (by omega) (by omega) _ hb2 (by simp [HLn.out]) (by omega)).mono ?_; rintro e w3 ⟨rfl, o3, hb3, st3⟩; clear hb2)
    | (go_at_call 51; refine (wnumber_v s.size 16 (by omega) (by omega) _ hb3 (by simp [HLn.out]) (by omega)).mono ?_; rintro e w4 ⟨rfl, o4, hb4, st4⟩; clear hb3)
    | (go_at_call 51; refine (wnumber_v (65535 - s.size) 16 (by omega) (by omega) _ hb4 (by simp [HLn.out]) (by omega)).mono ?_; rintro e w5 ⟨rfl, o5, hb5, st5⟩; clear hb4; obtain ⟨hdr, hW, hBB⟩ := hb5; have hc5 := hBB.c0; have HBB := (show Hid _ from hBB.own); have HW := (show Hid (Wrote _ _) from hW); have hdl : hdr.length = 5 := (by have := hW.1; simpa [HLn.out] using this); have hgl := hBB.lt; clear hW hBB)
    | (at_builtin; refine Lib.wpList_append_own_string _ rfl _ _ 66 9 rfl (g + 1) 5 i0 Tryz.underlying66 Tryz.underlying9 hi0 hz0 hz1 hz2 _ hdr.length _ rfl HBB.out s rfl (by unfold maxLen; omega) (by omega) (by omega) ?_; intro v6 w6 hown6 hg6 _; have HO6 := (show Hid (w6.ownsRow _ _ _ _ _ _) from hown6); have HG6 := (show Hid _ from hg6); clear hown6 hg6))
  go_ret
  refine ⟨v6, hdr, rfl, ⟨hdl, ?_⟩, ?_, ?_⟩
  · have hb := HW.out.bits
    have e1 : numBits 1 1 = [1] := rfl
    have e2 : numBits 0 2 = [0, 0] := rfl
    rw [e1, e2] at hb
    rw [hss]
    simpa only [List.nil_append, List.append_assoc] using hb
  · have e1 : (hdr ++ s.data.toList).length = hdr.length + s.size := by rw [List.length_append, hss]
    have e2 : Lib.byteCells (hdr ++ s.data.toList) = Lib.byteCells hdr ++ Lib.strCells s := by simp [Lib.byteCells, Lib.strCells]
    rw [e1, e2]
    exact World.ownsRow.weakD HO6.out (by have := HG.out; omega)
  · have hst := (((st1.trans st2).trans st3).trans st4).trans st5
    exact grown_last hst HG6.out w HS0.out (by have := HG.out; omega)
end Go.Proofs.YtgfbbcnnmoamnaaGreatDoor

namespace Go.Proofs.YtgfbbcnnmoamnaaGreatDoor
open Go.RowKit Go.Maps

section
variable {g F M Bf : Nat} {s : ByteArray} {p : Nat} {vl vd o o' : Value} {b : List Nat} {w w' : World} {T : TypeId} {rest : List Value}
/-- the writer's row is none of the finder's blocks -/
def Sep (F M Bf : Nat) (o : Value) : Prop := ∀ k, o.ownBlock = some k → k ≠ F ∧ k ≠ M ∧ k ≠ Bf
theorem Fnd.step (h : Fnd F M Bf s p w) (st : Step g o o' w w') (hg : g ≠ F ∧ g ≠ M ∧ g ≠ Bf) (hs : Sep F M Bf o) : Fnd F M Bf s p w' ∧ Sep F M Bf o' := by
  refine ⟨h.same (st.block F h.ltF (fun e => hg.1 e.symm) (fun e => (hs F e).1 rfl)) (st.block Bf h.ltB (fun e => hg.2.2 e.symm) (fun e => (hs Bf e).2.2 rfl)) (st.block M h.ltM (fun e => hg.2.1 e.symm) (fun e => (hs M e).2.1 rfl)), fun k hk => ?_⟩
  rcases st.moved k hk with e | e
  · exact hs k e
  · have h1 := h.ltF
    have h2 := h.ltM
    have h3 := h.ltB
    omega
theorem BW.kep (h : BW g T rest b o w) (hk : Kep M Bf w w') (hg : g ≠ F ∧ g ≠ M ∧ g ≠ Bf) (hs : Sep F M Bf o) : BW g T rest b o w' := by
  obtain ⟨out, hW, hB⟩ := h
  refine ⟨out, hW, ⟨(hk.block g hB.lt hg.2.1 hg.2.2).trans hB.blk, ⟨hB.own.1, ?_⟩, hB.hn, hB.ho⟩⟩
  rcases hB.own.2 with hn | ⟨c, cap, cur, hv, h1, hc, hr⟩
  · exact .inl hn
  · have := hs c (by rw [hv]; rfl)
    exact .inr ⟨c, cap, cur, hv, h1, (hk.block c (lt_of_block hc) this.2.1 this.2.2).trans hc, hr⟩
theorem WTab.kep {v : Value} {l : List (Nat × Nat)} (h : WTab g v l o w) (hk : Kep M Bf w w') (hm : ∀ c, v.ownBlock = some c → c ≠ M ∧ c ≠ Bf) : WTab g v l o w' := by
  obtain ⟨c, hv, h1, h2, h3⟩ := h
  have := hm c (by rw [hv]; rfl)
  exact ⟨c, hv, h1, h2, (hk.block c (lt_of_block h3) this.1 this.2).trans h3⟩
theorem below_kep {W : World} (hb : Below W.heap.size W w) (hk : Kep M Bf w w') (h1 : W.heap.size ≤ M) (h2 : W.heap.size ≤ Bf) : Below W.heap.size W w' :=
  ⟨hk.os.trans hb.os, hk.tape.trans hb.tape, hk.output.trans hb.output, Nat.le_trans hb.size hk.size, fun k hk' => (hk.block k (Nat.lt_of_lt_of_le hk' hb.size) (by omega) (by omega)).trans (hb.block k hk')⟩
theorem below_step {W : World} (hb : Below W.heap.size W w) (st : Step g o o' w w') (h1 : W.heap.size ≤ g) (ho : ∀ k, o.ownBlock = some k → W.heap.size ≤ k) : Below W.heap.size W w' :=
  ⟨st.os.trans hb.os, st.tape.trans hb.tape, st.output.trans hb.output, Nat.le_trans hb.size st.size, fun k hk' => (st.block k (Nat.lt_of_lt_of_le hk' hb.size) (by omega) (fun e => by have := ho k e; omega)).trans (hb.block k hk')⟩
end
theorem take_snoc' (L : List UInt8) (a : Nat) (h : a < L.length) : L.take a ++ [L.getD a 0] = L.take (a + 1) := by
  rw [List.take_succ_eq_append_getElem h]; simp [h]
theorem rep_len31 (l k : Nat) (h1 : 3 ≤ l) (h2 : l ≤ 258) (h3 : 1 ≤ k) (h4 : k ≤ 32768) : (repBits l k).length ≤ 31 := by
  have hw := rep_word l h1 h2
  have hd : (distSpan (distSym k)).2 ≤ 13 := by
    have : ∀ y, y < 30 → (distSpan y).2 ≤ 13 := by decide +kernel
    exact this _ (by have := (distSym_ok k h3 h4).1; omega)
  unfold repBits
  simp only [List.length_append, numBits_len, wordBits_len]
  omega
/-- where the writing of a text stands -/
structure FB (g M bl bd : Nat) (s : ByteArray) (W : World) (a : Nat) (o : Value) (b : List Nat) (w : World) : Prop where
  ha : a ≤ s.size
  c1 : g < M ∧ bl < M ∧ bd < M ∧ W.heap.size ≤ g
  bw : BW g 115 [.slice (some ⟨bl, 0, none⟩) 288 288, .slice (some ⟨bd, 0, none⟩) 32 32] ([1] ++ ([1, 0] ++ b)) o w
  tl : WTab g (.slice (some ⟨bl, 0, none⟩) 288 288) fixWords o w
  td : WTab g (.slice (some ⟨bd, 0, none⟩) 32 32) distWords o w
  fn : Fnd (M + 2) M (M + 1) s a w
  sep : Sep (M + 2) M (M + 1) o
  br : Brings b (s.data.toList.take a)
  co : Same s.data.toList → Cost s.data.toList.length a b.length
  hbl : b.length ≤ 11 * a
  be : Below W.heap.size W w
section
variable {g M bl bd len back : Nat} {s : ByteArray} {W : World} {a : Nat} {o o' : Value} {b nb : List Nat} {w w1 w2 w3 : World}
theorem FB.below (h : FB g M bl bd s W a o b w) (hb : Below W.heap.size W w1) (hb1 : Below w.heap.size w w1) : FB g M bl bd s W a o b w1 :=
  ⟨h.ha, h.c1, h.bw.below hb1, h.tl.step (Step.of_below hb1), h.td.step (Step.of_below hb1), h.fn.below hb1, h.sep, h.br, h.co, h.hbl, hb⟩
theorem FB.fstep (h : FB g M bl bd s W a o b w) (st : Step g o o' w w2) : Fnd (M + 2) M (M + 1) s a w2 := (h.fn.step st (by have := h.c1; omega) h.sep).1
theorem FB.next (h : FB g M bl bd s W a o b w) (hbw : BW g 115 [.slice (some ⟨bl, 0, none⟩) 288 288, .slice (some ⟨bd, 0, none⟩) 32 32] ([1] ++ ([1, 0] ++ b) ++ nb) o' w2) (st : Step g o o' w w2) {a' : Nat} (hfn : Fnd (M + 2) M (M + 1) s a' w3) (hk : Kep M (M + 1) w2 w3)
    (ha' : a' ≤ s.size) (hbr : Brings (b ++ nb) (s.data.toList.take a')) (hco : Same s.data.toList → Cost s.data.toList.length a' (b ++ nb).length) (hl : (b ++ nb).length ≤ 11 * a') : FB g M bl bd s W a' o' (b ++ nb) w3 := by
  have hc := h.c1
  have hg : g ≠ M + 2 ∧ g ≠ M ∧ g ≠ M + 1 := by omega
  have hsep := (h.fn.step st hg h.sep).2
  have hbe : Below W.heap.size W w2 := below_step h.be st hc.2.2.2 (fun k hk => by have := (h.bw.ownge hk).1; omega)
  refine ⟨ha', hc, ?_, (h.tl.step st).kep hk ?_, (h.td.step st).kep hk ?_, hfn, hsep, hbr, hco, hl, below_kep hbe hk (by omega) (by omega)⟩
  · have e : [1] ++ ([1, 0] ++ (b ++ nb)) = [1] ++ ([1, 0] ++ b) ++ nb := by simp
    rw [e]
    exact hbw.kep hk hg hsep
  · intro c hc'
    have : c = bl := by simpa [Value.ownBlock] using hc'.symm
    omega
  · intro c hc'
    have : c = bd := by simpa [Value.ownBlock] using hc'.symm
    omega
theorem FB.lit (h : FB g M bl bd s W a o b w) (hlt : a < s.size) (hL : Lng s.data.toList a len back) (hlen : len < 3) : Brings (b ++ litBits (s.data.toList.getD a 0).toNat) (s.data.toList.take (a + 1)) ∧ (Same s.data.toList → Cost s.data.toList.length (a + 1) (b ++ litBits (s.data.toList.getD a 0).toNat).length) ∧ (b ++ litBits (s.data.toList.getD a 0).toNat).length ≤ 11 * (a + 1) := by
  have hss : s.data.toList.length = s.size := by simp
  have hc := (s.data.toList.getD a 0).toNat_lt
  have h9 := litBits_pos (s.data.toList.getD a 0).toNat (by omega)
  refine ⟨?_, fun hS => ?_, ?_⟩
  · rw [← take_snoc' s.data.toList a (by omega)]; exact h.br.lit _
  · rw [List.length_append]
    refine (h.co hS).lit (by omega) ?_ h9.2
    by_cases h0 : a = 0
    · exact .inl h0
    · right
      by_cases h3 : a + 3 ≤ s.data.toList.length
      · have := (hL.2 hS (by omega) h3).1; omega
      · omega
  · rw [List.length_append]; have := h.hbl; omega
theorem FB.rep (h : FB g M bl bd s W a o b w) (hs : s.size ≤ 20000) (hL : Lng s.data.toList a len back) (hlen : ¬ len < 3) : (len ≤ 258 ∧ 1 ≤ back ∧ back ≤ 20000 ∧ a + len ≤ s.size) ∧ Brings (b ++ repBits len back) (s.data.toList.take (a + len)) ∧ (Same s.data.toList → Cost s.data.toList.length (a + len) (b ++ repBits len back).length) ∧ (b ++ repBits len back).length ≤ 11 * (a + len) := by
  have hss : s.data.toList.length = s.size := by simp
  rcases hL.1 with h0 | ⟨q1, q2, q3, q4, q5⟩
  · omega
  · have ha := h.ha
    have h31 := rep_len31 len back (by omega) q1 q2 (by omega)
    refine ⟨⟨q1, q2, by omega, by omega⟩, h.br.rep (by omega) q1 q2 q3 (by omega) q4 q5, fun hS => ?_, ?_⟩
    · have := hL.2 hS (by omega) (by omega)
      rw [List.length_append, this.2]
      exact (h.co hS).rep (by omega) (by omega) this.1
    · rw [List.length_append]; have := h.hbl; omega
end
/-- a block of the fixed codes that brings forth a text -/
def FixOf (L out : List UInt8) : Prop := ∃ b, Wrote out ([1] ++ ([1, 0] ++ (b ++ litBits 256))) ∧ Brings b L ∧ (Same L → Cost L.length L.length b.length)
set_option maxHeartbeats 1000000 in
set_option maxRecDepth 8000 in
theorem fixedBlock_any (s : ByteArray) (hs : s.size ≤ 20000) (w : World) :
    Calls Tryz.prog 18 #[.string s] w fun e w' => ∃ v out, e = .returned v ∧ FixOf s.data.toList out ∧ w'.ownsRow w.heap.size 5 1 v out.length (Lib.byteCells out) ∧ Below w.heap.size w w' := by
  have hss : s.data.toList.length = s.size := by simp
  have HW1 := (show Hid _ from fun h w hI => wordsOf_any fixedL (by rw [fixedL_len]; omega) fixedL_le h 0 288 w hI)
  have HW2 := (show Hid _ from fun h w hI => wordsOf_any fixedD (by rw [fixedD_len]; omega) fixedD_le h 0 32 w hI)
  rw [fixedL_len, fix_wrds] at HW1
  rw [fixedD_len, dist_wrds] at HW2
  obtain ⟨FL, HFL⟩ := hid_intro fixedL
  obtain ⟨FD, HFD⟩ := hid_intro fixedD
  rw [← HFL.out] at HW1
  rw [← HFD.out] at HW2
  go_enter Tryz.func18, Tryz.ntmps18
  go_wp2_with (first
    | (go_at_call 49; refine (fixedLiterals_any _).mono ?_; rintro e w1 ⟨rfl, hr1, hb1⟩; rw [← HFL.out] at hr1; have z1 := hb1.size; have HB1 := (show Hid (Below w.heap.size w w1) from hb1); clear hb1; have first1 : True := trivial)
    | (go_at_call 48; have := first1; refine Calls.mono (HW1.out _ w1 (IntsAt.of_row hr1)) ?_; rintro e w2 ⟨bl, rfl, hl1, hl2, hb2⟩; have z2 := hb2.size; have HB2 := (show Hid (Below w.heap.size w w2) from HB1.out.trans (hb2.mono z1)); clear first1 hb2)
    | (go_at_call 50; refine (fixedDistances_any _).mono ?_; rintro e w3 ⟨h5, rfl, hh5, hr3, hb3⟩; rw [← HFD.out] at hr3; have z3 := hb3.size; have HB3 := (show Hid (Below w.heap.size w w3) from HB2.out.trans (hb3.mono (by omega))); have hl3 := (hb3.block bl (lt_of_block hl2)).trans hl2; clear hb3)
    | (go_at_call 48; refine Calls.mono (HW2.out _ w3 (IntsAt.of_row hr3)) ?_; rintro e w4 ⟨bd, rfl, hd1, hd2, hb4⟩; have z4 := hb4.size; have HB4 := (show Hid (Below w.heap.size w w4) from HB3.out.trans (hb4.mono (by omega))); have hl4 := (hb4.block bl (lt_of_block hl3)).trans hl3; clear hb4))
  have hB0 := BW.start w4 115 [.slice (some ⟨bl, 0, none⟩) 288 288, .slice (some ⟨bd, 0, none⟩) 32 32]
  have HB5 := (show Hid (Below w.heap.size w (w4.alloc (.cells #[.slice none 0 0, .int .i64 0, .slice (some ⟨bl, 0, none⟩) 288 288, .slice (some ⟨bd, 0, none⟩) 32 32] 115))) from HB4.out.alloc HB4.out.size _)
  have HT1 := (show Hid (WTab w4.heap.size (.slice (some ⟨bl, 0, none⟩) 288 288) fixWords (.slice none 0 0) (w4.alloc (.cells #[.slice none 0 0, .int .i64 0, .slice (some ⟨bl, 0, none⟩) 288 288, .slice (some ⟨bd, 0, none⟩) 32 32] 115))) from ⟨bl, by rw [fixWords_len], by have := lt_of_block hl4; omega, (by intro h; cases h), alloc_keeps hl4⟩)
  have HT2 := (show Hid (WTab w4.heap.size (.slice (some ⟨bd, 0, none⟩) 32 32) distWords (.slice none 0 0) (w4.alloc (.cells #[.slice none 0 0, .int .i64 0, .slice (some ⟨bl, 0, none⟩) 288 288, .slice (some ⟨bd, 0, none⟩) 32 32] 115))) from ⟨bd, by rw [distWords_len], by have := lt_of_block hd2; omega, (by intro h; cases h), alloc_keeps hd2⟩)
  have HGL := (show Hid (bl < w4.heap.size ∧ bd < w4.heap.size ∧ w.heap.size ≤ w4.heap.size) from ⟨lt_of_block hl4, lt_of_block hd2, HB4.out.size⟩)
  have first2 : True := trivial
  go_wp2_with (first
    | (go_at_call 51; have := first2; refine (wnumber_v 1 1 (by omega) (by omega) _ hB0 (by simp) (by omega)).mono ?_; rintro e w6 ⟨rfl, o6, hb6, st6⟩; clear hB0 first2)
    | (go_at_call 51; refine (wnumber_v 1 2 (by omega) (by omega) _ hb6 (by simp [numBits_len]) (by omega)).mono ?_; rintro e w7 ⟨rfl, o7, hb7, st7⟩; clear hb6)
    | (go_at_call 52; refine (newFinder_any s hs _).mono ?_; rintro e w8 ⟨rfl, hf8, hb8⟩; have HB8 := (show Hid (Below w7.heap.size w7 w8) from hb8); have HF8 := (show Hid (Fnd _ _ _ s 0 w8) from hf8); clear hf8 hb8))
  have hst7 := st6.trans st7
  have hfb : FB w4.heap.size w7.heap.size bl bd s w 0 o7 [] w8 := by
    have hg := HGL.out
    have z7 : w4.heap.size < w7.heap.size := hb7.lt
    have hb7' : BW w4.heap.size 115 [.slice (some ⟨bl, 0, none⟩) 288 288, .slice (some ⟨bd, 0, none⟩) 32 32] ([1] ++ ([1, 0] ++ [])) o7 w7 := hb7
    refine ⟨by omega, ⟨z7, by omega, by omega, hg.2.2⟩, hb7'.below HB8.out, (HT1.out.step hst7).step (Step.of_below HB8.out), (HT2.out.step hst7).step (Step.of_below HB8.out), HF8.out, fun k hk => by have := (hb7.ownge hk).2; omega, Brings.nil, fun _ => .inl ⟨rfl, rfl⟩, by simp, ?_⟩
    have hb6 : Below w.heap.size w w7 := infl_below HB5.out hg.2.2 hst7
    exact hb6.trans (HB8.out.mono hb6.size)
  have HFB := (show Hid (FB w4.heap.size w7.heap.size bl bd s w 0 o7 [] w8) from hfb)
  obtain ⟨g, HG⟩ := hid_intro w4.heap.size
  obtain ⟨M, HM⟩ := hid_intro w7.heap.size
  rw [← HG.out, ← HM.out] at HFB ⊢
  clear hfb hst7 st6 st7 hb7 HB8 HF8 HT1 HT2 HB5 HB4 HB3 HB2 HB1 hl4 hl3 hl2 hr1 hr3 hd2 HGL HW1 HW2 HFL HFD
  go_loopw [5] (fun va wr => ∃ (a : Nat) (o : Value) (b : List Nat), va = .int .i64 (a : Int) ∧ FB g M bl bd s w a o b wr) (fun va _ => s.size - (intOf va).toNat)
  case atStart => exact ⟨0, o7, [], rfl, HFB.out⟩
  case round =>
    clear HFB
    obtain ⟨a, o, b, rfl, hfb⟩ := hrel
    have haz := hfb.ha
    by_cases hlt : a < s.size
    · have HLG := (show Hid _ from longest_any a haz wr hfb.fn)
      have HFB := (show Hid (FB g M bl bd s w a o b wr) from hfb)
      have q0 := fun w => idx_str s (a : Int) a (by omega) hlt w
      rw [byte_at s a hlt] at q0
      obtain ⟨c, HC⟩ := hid_intro (s.data.toList.getD a 0)
      rw [← HC.out] at q0
      clear hfb
      go_upto_if 30 with (go_at_call 53; refine Calls.mono HLG.out ?_; rintro e w9 ⟨len, back, rfl, hb9, hL⟩; have HL := (show Hid (Lng s.data.toList a len back) from hL); have HF9 := (show Hid (FB g M bl bd s w a o b w9) from HFB.out.below (HFB.out.be.trans (hb9.mono HFB.out.be.size)) hb9); clear hL hb9 HFB HLG)
      have hbnd : ([1] ++ ([1, 0] ++ b)).length ≤ 11 * a + 3 := by have := HF9.out.hbl; simp only [List.length_append, List.length_cons, List.length_nil]; omega
      by_cases h3 : len < 3
      · have h3i : (len : Int) < 3 := by omega
        have hlb := c.toNat_lt
        have HLT := (show Hid _ from HF9.out.lit hlt HL.out h3)
        rw [← HC.out] at HLT
        have HLI := (show Hid _ from literal_any c.toNat hlb w9 HF9.out.bw (by omega) HF9.out.tl)
        clear h3
        go_wp2_with (first
          | (go_at_call 54; refine Calls.mono HLI.out ?_; rintro e w10 ⟨rfl, o10, hb10, st10⟩; have HP := (show Hid _ from pass_any a (a + 1) (by omega) hlt w10 (HF9.out.fstep st10)))
          | (go_at_call 56; refine Calls.mono HP.out ?_; rintro e w11 ⟨rfl, hf11, hk11⟩))
        go_roundw
        case rel => exact ⟨a + 1, o10, _, by go_num, HF9.out.next hb10 st10 hf11 hk11 hlt HLT.out.1 HLT.out.2.1 HLT.out.2.2⟩
        case measure => simp [intOf]; omega
      · have h3i : ¬ (len : Int) < 3 := by omega
        have hrp := HF9.out.rep hs HL.out h3
        have HRP := (show Hid _ from hrp)
        have hal := hrp.1.2.2.2
        have HRI := (show Hid _ from drepeat_any len back (by omega) hrp.1.1 hrp.1.2.1 (by omega) w9 HF9.out.bw (by omega) HF9.out.tl HF9.out.td)
        have hl258 := hrp.1.1
        clear hrp
        go_wp2_with (first
          | (go_at_call 55; refine Calls.mono HRI.out ?_; rintro e w10 ⟨rfl, o10, hb10, st10⟩; have HP := (show Hid _ from pass_any a (a + len) (by omega) hal w10 (HF9.out.fstep st10)))
          | (go_at_call 56; refine Calls.mono HP.out ?_; rintro e w11 ⟨rfl, hf11, hk11⟩))
        go_roundw
        case rel => exact ⟨a + len, o10, _, by go_num, HF9.out.next hb10 st10 hf11 hk11 hal HRP.out.2.1 HRP.out.2.2.1 HRP.out.2.2.2⟩
        case measure => simp [intOf]; omega
    · obtain rfl : a = s.size := by omega
      have HFB := (show Hid (FB g M bl bd s w s.size o b wr) from hfb)
      have hc2 := hfb.bw.c2
      have hbnd : ([1] ++ ([1, 0] ++ b)).length ≤ 11 * s.size + 3 := by have := hfb.hbl; simp only [List.length_append, List.length_cons, List.length_nil]; omega
      obtain ⟨b', e', h1', h2', h3'⟩ := hfb.tl
      have hbb : b' = bl := by injection e' with e'; injection e' with e'; injection e' with e'; exact e'.symm
      rw [hbb] at h3'
      have hr := WTab.range (w := wr) h3' 256 (by rw [fixWords_len]; omega) (fixWord 256) (fixWords_get 256 (by omega))
      have hp := fixWord_le 256 (by omega)
      have HW := (show Hid _ from wword_any (fixWord 256).1 (fixWord 256).2 hp.1 hp.2 wr hfb.bw (by have : (fixWord 256).2 ≤ 9 := (by decide); omega))
      have hpv : fixWord 256 = (0, 7) := by decide
      rw [hpv] at hr HW
      clear hfb e' h1' h2' h3' hbb hp hpv
      go_wp2_with (first
        | (refine wpList_load_part rfl 124 _ rfl bl 512 rfl _ _ hr Tryz.underlying124 rfl sizeWord ?_)
        | (go_at_call 57; refine Calls.mono HW.out ?_; rintro e w12 ⟨rfl, o12, hb12, st12⟩; have HB12 := (show Hid _ from hb12); obtain ⟨out, hWr, hBB⟩ := hb12; have hc0 := hBB.c0; have HWr := (show Hid (Wrote _ _) from hWr); have HOw := (show Hid _ from hBB.own); clear hWr hBB))
      go_ret
      have hF := HFB.out
      have hc1 := hF.c1
      refine ⟨o12, out, rfl, ⟨b, ?_, ?_, ?_⟩, World.ownsRow.weakD HOw.out (by omega), below_step hF.be st12 hc1.2.2.2 (fun k hk => by have := (hF.bw.ownge hk).1; omega)⟩
      · have e : [1] ++ ([1, 0] ++ (b ++ litBits 256)) = [1] ++ ([1, 0] ++ b) ++ wordBits 0 7 := by
          have : litBits 256 = wordBits 0 7 := by decide
          rw [this]; simp
        rw [e]; exact HWr.out
      · have := hF.br
        rw [List.take_of_length_le (by omega)] at this
        exact this
      · intro hS
        have := hF.co hS
        rw [← hss] at this
        exact this
end Go.Proofs.YtgfbbcnnmoamnaaGreatDoor

namespace Go.Proofs.YtgfbbcnnmoamnaaGreatDoor
open Go.RowKit

/-- a stream of a text, as short as it must be -/
def DefOf (L out : List UInt8) : Prop := (∃ k, inflS out 20000 = .ok k L ∧ (k + 7) / 8 = out.length) ∧ out.length ≤ L.length + 5 ∧ (Same L → out.length ≤ 20 + L.length / 100)
theorem fix_read {L out : List UInt8} (h : FixOf L out) (hl : L.length ≤ 20000) : (∃ k, inflS out 20000 = .ok k L ∧ (k + 7) / 8 = out.length) ∧ (Same L → out.length ≤ 20 + L.length / 100) := by
  obtain ⟨b, hW, hB, hC⟩ := h
  have e7 : (litBits 256).length = 7 := by decide
  have hlen := hW.1
  simp only [List.length_append, List.length_cons, List.length_nil, e7] at hlen
  refine ⟨⟨b.length + 10, fixed_read hB hl hW.bits, by omega⟩, fun hS => ?_⟩
  have := (hC hS).done
  omega
theorem hdr_read {L hdr : List UInt8} (h : HdrOf L hdr) (hl : L.length ≤ 20000) : (∃ k, inflS (hdr ++ L) 20000 = .ok k L ∧ (k + 7) / 8 = (hdr ++ L).length) ∧ (hdr ++ L).length = L.length + 5 := by
  have e : (hdr ++ L).length = L.length + 5 := by rw [List.length_append, h.1]; omega
  exact ⟨⟨_, stored_read hl (by omega) h.1 h.2, by omega⟩, e⟩
theorem def_plain {L out hdr : List UInt8} (hl : L.length ≤ 20000) (h1 : FixOf L out) (h2 : HdrOf L hdr) (hlt : (hdr ++ L).length < out.length) : DefOf L (hdr ++ L) := by
  obtain ⟨_, f2⟩ := fix_read h1 hl
  obtain ⟨g1, g2⟩ := hdr_read h2 hl
  exact ⟨g1, by omega, fun hS => by have := f2 hS; omega⟩
theorem def_packed {L out hdr : List UInt8} (hl : L.length ≤ 20000) (h1 : FixOf L out) (h2 : HdrOf L hdr) (hlt : ¬ (hdr ++ L).length < out.length) : DefOf L out := by
  obtain ⟨f1, f2⟩ := fix_read h1 hl
  obtain ⟨_, g2⟩ := hdr_read h2 hl
  exact ⟨f1, by omega, f2⟩
theorem conv_row {w : World} {base : Nat} {v : Value} {out : List UInt8} (h : w.ownsRow base 5 1 v out.length (Lib.byteCells out)) : (convert 66 9 v).run Tryz.prog w = .ok (.string ⟨out.toArray⟩) w := by
  rcases h.2 with ⟨rfl, h0⟩ | ⟨b, cap, cur, rfl, h1, hg, h2, h3, h4, h5⟩
  · have : out = [] := List.length_eq_zero_iff.1 h0
    subst this
    exact Lib.run_convert_nil_bytes w 66 9 5 _ Tryz.underlying66 Tryz.underlying5 Tryz.underlying9
  · refine run_convert_bytes_back w 66 9 5 ⟨b, 0, none⟩ cap out Tryz.underlying66 Tryz.underlying5 Tryz.underlying9 ?_
    intro j hj
    obtain ⟨b', cap', hv, _, hc⟩ := byte_cell h j hj
    injection hv with hv1
    injection hv1 with hv1
    injection hv1 with hv1
    subst hv1
    rw [show (⟨b, 0, none⟩ : Addr).add j = ⟨b, j, none⟩ by simp [Addr.add]; omega, hc]
    simp [hj]
set_option maxHeartbeats 1000000 in
set_option maxRecDepth 8000 in
theorem sDeflate_in (s : ByteArray) (hs : s.size ≤ 20000) (w : World) :
    Calls Tryz.prog 9 #[.string s] w fun e w' => ∃ out, e = .returned (.tuple #[.string ⟨out.toArray⟩, .nilIface]) ∧ DefOf s.data.toList out ∧ Below w.heap.size w w' := by
  have hss : s.data.toList.length = s.size := by simp
  have hd : ¬ (20000 : Int) < (s.size : Int) := by omega
  go_enter Tryz.func9, Tryz.ntmps9
  go_upto_if 18 with (first
    | (go_at_call 18; refine (fixedBlock_any s hs _).mono ?_; rintro e w1 ⟨v1, o1, rfl, hf1, hr1, hb1⟩; have HF1 := (show Hid (FixOf s.data.toList o1) from hf1); have HB1 := (show Hid (Below w.heap.size w w1) from hb1); have HR1 := (show Hid (w1.ownsRow w.heap.size 5 1 v1 o1.length (Lib.byteCells o1)) from hr1); clear hf1 hb1 hr1)
    | (go_at_call 19; refine (storedBlock_any s hs _).mono ?_; rintro e w2 ⟨v2, o2, rfl, hf2, hr2, hb2⟩; have HF2 := (show Hid (HdrOf s.data.toList o2) from hf2); have HB2 := (show Hid (Below w.heap.size w w2) from HB1.out.trans (hb2.mono HB1.out.size)); have HR2 := (show Hid (w2.ownsRow w1.heap.size 5 1 v2 (o2 ++ s.data.toList).length (Lib.byteCells (o2 ++ s.data.toList))) from hr2); have HR12 := (show Hid (w2.ownsRow w.heap.size 5 1 v1 o1.length (Lib.byteCells o1)) from own_below HR1.out hb2); obtain ⟨P2, HP2⟩ := hid_intro (o2 ++ s.data.toList); rw [← HP2.out] at HR2; obtain ⟨a1, c1, hv1⟩ := own_shape HR12.out; obtain ⟨a2, c2, hv2⟩ := own_shape HR2.out; subst hv1; subst hv2; clear hf2 hb2 hr2 HR1))
  have k1 := conv_row HR12.out
  have k2 := conv_row HR2.out
  by_cases hlt : P2.length < o1.length
  · have HD : Hid (DefOf s.data.toList P2) := by
      show DefOf _ _
      rw [HP2.out] at hlt ⊢
      exact def_plain (by omega) HF1.out HF2.out hlt
    go_wp2
    go_ret2
    exact ⟨P2, rfl, HD.out, HB2.out⟩
  · have HD : Hid (DefOf s.data.toList o1) := by
      show DefOf _ _
      rw [HP2.out] at hlt
      exact def_packed (by omega) HF1.out HF2.out hlt
    go_wp2
    go_ret2
    exact ⟨o1, rfl, HD.out, HB2.out⟩
set_option maxHeartbeats 1000000 in
set_option maxRecDepth 8000 in
theorem sDeflate_many {er : Errs} (s : ByteArray) (h : 20000 < s.size) (w : World) (he : er.At w) :
    Calls Tryz.prog 9 #[.string s] w fun e w' => Below w.heap.size w w' ∧ e = .returned (.tuple #[.string ByteArray.empty, errV er.many]) := by
  have hm := he.many
  have hd : (20000 : Int) < (s.size : Int) := by omega
  unfold errV at hm ⊢
  go_enter Tryz.func9, Tryz.ntmps9
  go_wp2
  go_region
  go_wp2
  go_ret2
  exact ⟨⟨rfl, rfl, rfl, Nat.le_refl _, fun _ _ => rfl⟩, rfl⟩
set_option maxHeartbeats 1000000 in
set_option maxRecDepth 8000 in
theorem deflate_in {er : Errs} (s : ByteArray) (hs : s.size ≤ 20000) (w : World) (_he : er.Full w) :
    Calls Tryz.prog 68 #[.string s] w fun e w' => ∃ out, e = .returned (.tuple #[.string ⟨out.toArray⟩, .int .i64 0]) ∧ DefOf s.data.toList out ∧ Below w.heap.size w w' := by
  go_enter Tryz.func68, Tryz.ntmps68
  go_wp2_with (first
    | (go_at_call 9; refine (sDeflate_in s hs _).mono ?_; rintro e w1 ⟨out, rfl, hD, hb1⟩; have HD := (show Hid (DefOf s.data.toList out) from hD); clear hD)
    | (go_at_call 11; refine (streamErrno_nil _).mono ?_; rintro e w2 ⟨rfl, hb2⟩))
  go_ret2
  exact ⟨out, rfl, HD.out, hb1.trans (hb2.mono hb1.size)⟩
set_option maxHeartbeats 1000000 in
set_option maxRecDepth 8000 in
theorem deflate_many {er : Errs} (s : ByteArray) (h : 20000 < s.size) (w : World) (he : er.Full w) :
    Calls Tryz.prog 68 #[.string s] w fun e w' => e = .returned (.tuple #[.string ByteArray.empty, .int .i64 1]) ∧ Below w.heap.size w w' := by
  go_enter Tryz.func68, Tryz.ntmps68
  go_wp2_with (first
    | (go_at_call 9; refine (sDeflate_many s h _ he.lay).mono ?_; rintro e w1 ⟨hb1, rfl⟩; have HE1 := (show Hid _ from he.below hb1))
    | (go_at_call 11; refine (streamErrno_many _ HE1.out).mono ?_; rintro e w2 ⟨rfl, hb2⟩))
  go_ret2
  exact ⟨rfl, hb1.trans (hb2.mono hb1.size)⟩
end Go.Proofs.YtgfbbcnnmoamnaaGreatDoor
