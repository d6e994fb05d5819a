/- The program's new finder; its block of bytes as they are. -/
import Derived.Test.YtfohjjcihioinaaGreatDoorDJ
import Derived.Lib.AppendStr
namespace Go.Proofs.YtfohjjcihioinaaGreatDoor
open Go.RowKit Go.Maps

set_option maxHeartbeats 1000000 in
set_option maxRecDepth 8000 in
theorem newFinder_any (s : ByteArray) (hs : s.size ≤ 20000) (w : World) :
    Calls Tryz.prog 102 #[.string s] w fun e w' => e = .returned (.pointer (some ⟨w.heap.size + 2, 0, none⟩)) ∧ Fnd (w.heap.size + 2) w.heap.size (w.heap.size + 1) s 0 w' ∧ Below w.heap.size w w' := by
  have hmm := @run_makeMap Tryz.prog
  have mk := fun w => make_int s.size (s.size : Int) rfl (by omega) w
  go_enter Tryz.func102, Tryz.ntmps102
  go_wp2
  go_ret
  refine ⟨rfl, ⟨hs, by omega, by omega, by omega, ?_, ?_, 0, .map [], by omega, by omega, ⟨_, rfl⟩, ?_, fun t => rfl⟩, ?_⟩
  · have := heap_alloc_new ((w.alloc (.map #[] 0)).alloc (.cells (rowi (List.replicate s.size 0)) 3 (0, 0))) (.cells #[.string s, .map (some w.heap.size), .slice (some ⟨w.heap.size + 1, 0, none⟩) s.size s.size] 248)
    simpa using this
  · rw [befs_zero]
    have h1 := heap_alloc_new (w.alloc (.map #[] 0)) (.cells (rowi (List.replicate s.size 0)) 3 (0, 0))
    have h2 := alloc_keeps (o' := .cells #[.string s, .map (some w.heap.size), .slice (some ⟨w.heap.size + 1, 0, none⟩) s.size s.size] 248) h1
    simpa using h2
  · exact ((World.ownsMap_made w Tryz.prog 250 (plainElem (H := Unit) Tryz.prog 3)).alloc _).alloc _
  · exact (((Below.refl _ w).alloc (Nat.le_refl _) _).alloc (by simp) _).alloc (by simp; omega) _
theorem _root_.Go.World.ownsRow.weakD {w : World} {B B' n z : Nat} {v : Value} {xs : List Value} {t : TypeId} (h : w.ownsRow B t z v n xs) (hB : B' ≤ B) : w.ownsRow B' t z v n xs := by
  refine ⟨h.1, ?_⟩
  rcases h.2 with hn | ⟨g, cap, cur, rfl, h1, rest⟩
  · exact .inl hn
  · exact .inr ⟨g, cap, cur, rfl, Nat.le_trans hB h1, rest⟩
/-- the head of a block of bytes as they are -/
def HdrOf (L hdr : List UInt8) : Prop := hdr.length = 5 ∧ BitsAt hdr 0 ([1] ++ ([0, 0] ++ (numBits 0 5 ++ (numBits L.length 16 ++ numBits (65535 - L.length) 16))))
theorem grown_last {g : Nat} {o : Value} {w w1 w2 : World} (st : Step g (.slice none 0 0) o w w1) (hg : w1.grownBy w2 o.ownBlock) (W : World) (hb : Below W.heap.size W w) (hgW : W.heap.size ≤ g) : Below W.heap.size W w2 :=
  ⟨hg.os.trans (st.os.trans hb.os), hg.tape.trans (st.tape.trans hb.tape), hg.output.trans (st.output.trans hb.output), Nat.le_trans hb.size (Nat.le_trans st.size hg.size), fun k hk => by
    have hkw : k < w.heap.size := Nat.lt_of_lt_of_le hk hb.size
    refine (hg.block k (Nat.lt_of_lt_of_le hkw st.size) (fun e => ?_)).trans ((st.block k hkw (by omega) (by intro h; cases h)).trans (hb.block k hk))
    rcases st.moved k e.symm with e' | e'
    · cases e'
    · omega⟩
theorem BW.start (w : World) (T : TypeId) (rest : List Value) : BW w.heap.size T rest [] (.slice none 0 0) (w.alloc (.cells (.slice none 0 0 :: .int .i64 0 :: rest).toArray T)) :=
  ⟨[], Wrote.nil, ⟨heap_alloc_new w _, ⟨by simp [Lib.byteCells], .inl ⟨rfl, rfl⟩⟩, by simp, by simp⟩⟩
set_option maxHeartbeats 1000000 in
set_option maxRecDepth 8000 in
theorem storedBlock_any (s : ByteArray) (hs : s.size ≤ 20000) (w : World) :
    Calls Tryz.prog 38 #[.string s] w fun e w' => ∃ v hdr, e = .returned v ∧ HdrOf s.data.toList hdr ∧ w'.ownsRow w.heap.size 5 1 v (hdr ++ s.data.toList).length (Lib.byteCells (hdr ++ s.data.toList)) ∧ Below w.heap.size w w' := by
  have hss : s.data.toList.length = s.size := by simp
  obtain ⟨i0, hi0, hz0, hz1, hz2⟩ := info_parts infoU8
  have hx := turned16 s.size (by omega)
  go_enter Tryz.func38, Tryz.ntmps38
  obtain ⟨g, HG⟩ := hid_intro w.heap.size
  have hb0 := BW.start w 177 []
  have st0 : Below w.heap.size w (w.alloc (.cells ([.slice none 0 0, .int .i64 0] : List Value).toArray 177)) := (Below.refl _ w).alloc (Nat.le_refl _) _
  have HS0 := (show Hid _ from st0)
  clear st0
  rw [← HG.out] at hb0
  have hl : ∀ v n, (numBits v n).length = n := numBits_len
  have HLn := (show Hid _ from hl)
  clear hl
  go_wp2_with (first
    | (go_at_call 101; rw [← HG.out]; refine (wnumber_v 1 1 (by omega) (by omega) _ hb0 (by simp) (by omega)).mono ?_; rintro e w1 ⟨rfl, o1, hb1, st1⟩; clear hb0)
    | (go_at_call 101; refine (wnumber_v 0 2 (by omega) (by omega) _ hb1 (by simp [HLn.out]) (by omega)).mono ?_; rintro e w2 ⟨rfl, o2, hb2, st2⟩; clear hb1)
    | (go_at_call 101; refine (wnumber_v 0 5 (by omega) (by omega) _ hb2 (by simp [HLn.out]) (by omega)).mono ?_; rintro e w3 ⟨rfl, o3, hb3, st3⟩; clear hb2)
    | (go_at_call 101; refine (wnumber_v s.size 16 (by omega) (by omega) _ hb3 (by simp [HLn.out]) (by omega)).mono ?_; rintro e w4 ⟨rfl, o4, hb4, st4⟩; clear hb3)
    | (go_at_call 101; refine (wnumber_v (65535 - s.size) 16 (by omega) (by omega) _ hb4 (by simp [HLn.out]) (by omega)).mono ?_; rintro e w5 ⟨rfl, o5, hb5, st5⟩; clear hb4; obtain ⟨hdr, hW, hBB⟩ := hb5; have hc5 := hBB.c0; have HBB := (show Hid _ from hBB.own); have HW := (show Hid (Wrote _ _) from hW); have hdl : hdr.length = 5 := (by have := hW.1; simpa [HLn.out] using this); have hgl := hBB.lt; clear hW hBB)
    | (at_builtin; refine Lib.wpList_append_own_string _ rfl _ _ 75 9 rfl (g + 1) 5 i0 Tryz.underlying75 Tryz.underlying9 hi0 hz0 hz1 hz2 _ hdr.length _ rfl HBB.out s rfl (by unfold maxLen; omega) (by omega) (by omega) ?_; intro v6 w6 hown6 hg6 _; have HO6 := (show Hid (w6.ownsRow _ _ _ _ _ _) from hown6); have HG6 := (show Hid _ from hg6); clear hown6 hg6))
  go_ret
  refine ⟨v6, hdr, rfl, ⟨hdl, ?_⟩, ?_, ?_⟩
  · have hb := HW.out.bits
    have e1 : numBits 1 1 = [1] := rfl
    have e2 : numBits 0 2 = [0, 0] := rfl
    rw [e1, e2] at hb
    rw [hss]
    simpa only [List.nil_append, List.append_assoc] using hb
  · have e1 : (hdr ++ s.data.toList).length = hdr.length + s.size := by rw [List.length_append, hss]
    have e2 : Lib.byteCells (hdr ++ s.data.toList) = Lib.byteCells hdr ++ Lib.strCells s := by simp [Lib.byteCells, Lib.strCells]
    rw [e1, e2]
    exact World.ownsRow.weakD HO6.out (by have := HG.out; omega)
  · have hst := (((st1.trans st2).trans st3).trans st4).trans st5
    exact grown_last hst HG6.out w HS0.out (by have := HG.out; omega)
end Go.Proofs.YtfohjjcihioinaaGreatDoor
