/- The program's writer of bits. -/
import Derived.Test.YtgfbbcnnmoamnaaGreatDoorEnc
import Derived.Test.YtgfbbcnnmoamnaaGreatDoorPA
import Derived.Laws.OwnMore
import Derived.Deep.AppendLies
namespace Go.Proofs.YtgfbbcnnmoamnaaGreatDoor
open Go.RowKit

/-- a writer at the beginning of block g: how many bits, which bytes; the block's other cells -/
structure BB (g : Nat) (T : TypeId) (rest : List Value) (n : Nat) (out : List UInt8) (o : Value) (w : World) : Prop where
  blk : w.heap[g]? = some (.cells (o :: .int .i64 (n : Int) :: rest).toArray T (0, 0))
  own : w.ownsRow (g + 1) 5 1 o out.length (Lib.byteCells out)
  hn : n ≤ 400000
  ho : out.length ≤ 60000
section
variable {g : Nat} {T : TypeId} {rest : List Value} {n : Nat} {out : List UInt8} {o : Value} {w : World}
theorem BB.c0 (h : BB g T rest n out o w) : w.cell? ⟨g, 0, none⟩ = some o := (cell_of_row w g 0 _ _ _ h.blk).trans (by simp)
theorem BB.c1 (h : BB g T rest n out o w) : w.cell? ⟨g, 1, none⟩ = some (.int .i64 (n : Int)) := (cell_of_row w g 1 _ _ _ h.blk).trans (by simp)
theorem BB.free (h : BB g T rest n out o w) (j : Nat) : w.frozen? ⟨g, j, none⟩ = false := frozen_of_row w g j _ _ h.blk
theorem BB.lt (h : BB g T rest n out o w) : g < w.heap.size := lt_of_block h.blk
theorem BB.ownge (h : BB g T rest n out o w) {b : Nat} (hb : o.ownBlock = some b) : g + 1 ≤ b := (h.own.lt b hb).1
theorem BB.drewN (h : BB g T rest n out o w) (m : Nat) : BB g T rest n out o (w.drewN m) := ⟨h.blk, h.own, h.hn, h.ho⟩
theorem BB.drew (h : BB g T rest n out o w) : BB g T rest n out o w.drew := ⟨h.blk, h.own, h.hn, h.ho⟩
theorem BB.below {w' : World} (h : BB g T rest n out o w) (hb : Below w.heap.size w w') : BB g T rest n out o w' := ⟨(hb.block g h.lt).trans h.blk, own_below h.own hb, h.hn, h.ho⟩
theorem BB.alloc (h : BB g T rest n out o w) (b : Obj) : BB g T rest n out o (w.alloc b) := h.below ((Below.refl _ w).alloc (Nat.le_refl _) b)
/-- one bit more is counted -/
theorem BB.count (h : BB g T rest n out o w) (n' : Nat) (hn' : n' ≤ 400000) {v : Int} (hv : v = (n' : Int)) : BB g T rest n' out o (w.setCell ⟨g, 1, none⟩ (.int .i64 v)) ∧ Step g o o w (w.setCell ⟨g, 1, none⟩ (.int .i64 v)) := by
  subst hv
  refine ⟨⟨?_, ownsRow_setCell_below h.own (by simp) _, hn', h.ho⟩, Step.cell w ⟨g, 1, none⟩ rfl _⟩
  rw [heap_setCell_same _ _ _ _ _ _ h.blk]; simp
/-- a byte of the row is written -/
theorem BB.put {b cap : Nat} (h : BB g T rest n out (.slice (some ⟨b, 0, none⟩) out.length cap) w) (j : Nat) (x : UInt8) {v : Int} (hv : v = (x.toNat : Int)) :
    BB g T rest n (out.set j x) (.slice (some ⟨b, 0, none⟩) out.length cap) (w.setCell ⟨b, j, none⟩ (.int .u8 v)) ∧ Step g (.slice (some ⟨b, 0, none⟩) out.length cap) (.slice (some ⟨b, 0, none⟩) out.length cap) w (w.setCell ⟨b, j, none⟩ (.int .u8 v)) := by
  subst hv
  have hgb := h.ownge (b := b) rfl
  obtain ⟨h1, h2⟩ := h.own.stored j (.int .u8 (x.toNat : Int))
  have hbk : ∀ k, k ≠ b → (w.setCell ⟨b, j, none⟩ (.int .u8 (x.toNat : Int))).heap[k]? = w.heap[k]? := fun k hk => heap_setCell_other w ⟨b, j, none⟩ k _ (fun e => hk e)
  refine ⟨⟨(hbk g (by omega)).trans h.blk, ?_, h.hn, by simp; exact h.ho⟩, ⟨rfl, rfl, rfl, by simp [World.setCell], fun k _ _ ho => hbk k fun e => ho (by simp [Value.ownBlock, e]), fun _ e => .inl e⟩⟩
  have e : Lib.byteCells (out.set j x) = (Lib.byteCells out).set j (.int .u8 (x.toNat : Int)) := by simp [Lib.byteCells, List.map_set]
  rw [e, List.length_set]
  exact h1
/-- a byte more: behind an append, ahead of the store -/
theorem BB.grown {w2 w3 : World} {H g2 cap2 : Nat} {x : UInt8} (h : BB g T rest n out o w) (hb : Below w.heap.size w w2) (hg3 : w2.grownBy w3 o.ownBlock) (hat : o.ownBlock = some g2 ∨ g2 = H) (hH : w.heap.size ≤ H)
    (hown : w3.ownsRow (g + 1) 5 1 (.slice (some ⟨g2, 0, none⟩) (out.length + 1) cap2) (out.length + 1) (Lib.byteCells out ++ [.int .u8 (x.toNat : Int)])) (hl : out.length < 60000) :
    w3.cell? ⟨g, 0, none⟩ = some o ∧ w3.frozen? ⟨g, 0, none⟩ = false ∧ BB g T rest n (out ++ [x]) (.slice (some ⟨g2, 0, none⟩) (out.length + 1) cap2) (w3.setCell ⟨g, 0, none⟩ (.slice (some ⟨g2, 0, none⟩) (out.length + 1) cap2)) ∧
      Step g o (.slice (some ⟨g2, 0, none⟩) (out.length + 1) cap2) w (w3.setCell ⟨g, 0, none⟩ (.slice (some ⟨g2, 0, none⟩) (out.length + 1) cap2)) := by
  have hlt := h.lt
  have hne : o.ownBlock ≠ some g := fun e => by have := h.ownge e; omega
  have st : Step g o (.slice (some ⟨g2, 0, none⟩) (out.length + 1) cap2) w w3 := by
    refine ⟨hg3.os.trans hb.os, hg3.tape.trans hb.tape, hg3.output.trans hb.output, Nat.le_trans hb.size hg3.size, fun j hj _ ho => (hg3.block j (Nat.lt_of_lt_of_le hj hb.size) fun e => ho e.symm).trans (hb.block j hj), fun j hj => ?_⟩
    have e : g2 = j := by simpa [Value.ownBlock] using hj
    rcases hat with h1 | h1
    · exact .inl (e ▸ h1)
    · exact .inr (by omega)
  have hblk : w3.heap[g]? = some (.cells (o :: .int .i64 (n : Int) :: rest).toArray T (0, 0)) :=
    (hg3.block g (Nat.lt_of_lt_of_le hlt hb.size) fun e => hne e.symm).trans ((hb.block g hlt).trans h.blk)
  have st2 := st.trans (Step.cell w3 ⟨g, 0, none⟩ rfl (.slice (some ⟨g2, 0, none⟩) (out.length + 1) cap2))
  refine ⟨(cell_of_row w3 g 0 _ _ _ hblk).trans (by simp), frozen_of_row w3 g 0 _ _ hblk, ⟨?_, ?_, h.hn, by simp; omega⟩, st2⟩
  · rw [heap_setCell_same _ _ _ _ _ _ hblk]; simp
  · have e : Lib.byteCells (out ++ [x]) = Lib.byteCells out ++ [.int .u8 (x.toNat : Int)] := by simp [Lib.byteCells]
    have e2 : (out ++ [x]).length = out.length + 1 := by simp
    rw [e, e2]
    exact ownsRow_setCell_below hown (by simp) _
end
theorem byteCells_get (l : List UInt8) (j : Nat) (h : j < l.length) : (Lib.byteCells l)[j]? = some (.int .u8 (((l.getD j 0).toNat : Nat) : Int)) := by
  simp [Lib.byteCells, h]
/-- these bits are written -/
def BW (g : Nat) (T : TypeId) (rest : List Value) (b : List Nat) (o : Value) (w : World) : Prop := ∃ out, Wrote out b ∧ BB g T rest b.length out o w
theorem or_byte (a v n : Nat) (ha : a < 2 ^ n) (hv : v < 2) (hn : n < 8) : bits .or .u8 (a : Int) (wrap64 ((v : Int) * 2 ^ n) % 256) = ((a + v * 2 ^ n : Nat) : Int) := by
  have : ∀ n, n < 8 → ∀ a, a < 2 ^ n → ∀ v, v < 2 → bits .or .u8 ((a : Nat) : Int) (wrap64 (((v : Nat) : Int) * 2 ^ n) % 256) = ((a + v * 2 ^ n : Nat) : Int) := by decide +kernel
  exact this n hn a ha v hv
section
variable {g : Nat} {T : TypeId} {rest : List Value} {b : List Nat} {o : Value}
set_option maxHeartbeats 1000000 in
set_option maxRecDepth 8000 in
theorem wbit_any (v : Nat) (hv : v < 2) (w : World) (h : BW g T rest b o w) (hb : b.length < 400000) :
    Calls Tryz.prog 114 #[.pointer (some ⟨g, 0, none⟩), .int .i64 (v : Int)] w fun e w' => e = .returned (.tuple #[]) ∧ ∃ o', BW g T rest (b ++ [v]) o' w' ∧ Step g o o' w w' := by
  obtain ⟨out, hw, h⟩ := h
  have hwl := hw.1
  obtain ⟨n, HN⟩ := hid_intro b.length
  have HW : Hid (Wrote out b) := hw
  rw [← HN.out] at h hb hwl
  have HWL : Hid (out.length = (n + 7) / 8) := hwl
  clear hw hwl
  have h0 := h.c0
  have h1 := h.c1
  have hf0 := h.free 0
  obtain ⟨ao, cap, rfl⟩ := own_shape h.own
  obtain ⟨i0, hi0, hz0, hz1, hz2⟩ := info_parts infoU8
  have HG : Hid (g < w.heap.size) := h.lt
  have HB : Hid (BB g T rest n out (Value.slice ao out.length cap) w) := h
  clear h
  go_enter Tryz.func114, Tryz.ntmps114
  by_cases h8 : n % 8 = 0
  · go_wp2_with (at_builtin; refine wpList_append_lies _ rfl _ _ 66 rfl (g + 1) 5 i0 (.int .u8 0) 1 1 Tryz.underlying66 hi0 hz0 hz1 hz2 rfl (by decide) _ out.length _ rfl (World.ownsRow.alloc HB.out.own _) ⟨w.heap.size, 0, none⟩ 1 1 [.int .u8 0] rfl rfl (cell_one_new _ _ _) (by simp [Value.oneCell']) (by decide) (by have := HWL.out; unfold maxLen; omega) (by have := HWL.out; omega) (by have := HG.out; simp; omega) (w.heap.size + 1) (by simp) ?_; intro g2 cap2 w3 hown3 hg3 hat _; obtain ⟨hc, hff, hB, hst⟩ := BB.grown (x := 0) HB.out ((Below.refl _ w).alloc (Nat.le_refl _) _) hg3 hat (by omega) hown3 (by have := HWL.out; omega); have HB4 := (show Hid _ from hB); have HS4 := (show Hid _ from hst); clear hown3 hg3 hat hB hst)
    obtain ⟨w4, hw4⟩ := hid_intro (w3.setCell ⟨g, 0, none⟩ (.slice (some ⟨g2, 0, none⟩) (out.length + 1) cap2))
    rw [← hw4.out] at HB4 HS4 ⊢
    have eL : out.length + 1 = (out ++ [0]).length := by simp
    rw [eL] at HB4 HS4
    clear h1 h0 hf0 hc hff eL
    have hst := Wrote.step HW.out v hv (out1 := (out ++ [0])) (by rw [← HN.out]; rw [if_pos h8])
    rw [← HN.out] at hst
    obtain ⟨hX, hlen, hWn⟩ := hst
    have hrow : w4.cell? ⟨g2, n / 8, none⟩ = some (.int .u8 ((((out ++ [0]).getD (n / 8) 0).toNat : Nat) : Int)) := by
      have hc := HB4.out.own.cellAt (n / 8) (by omega)
      rw [hc]
      have : n / 8 < (out ++ [0]).length := hlen
      exact byteCells_get _ _ this
    have hfz : w4.frozen? ⟨g2, n / 8, none⟩ = false := HB4.out.own.frozenAt (n / 8)
    have e0 := HB4.out.c0
    have e1 := HB4.out.c1
    have HWn := (show Hid (Wrote _ _) from hWn)
    obtain ⟨X, HX⟩ := hid_intro ((out ++ [0]).getD (n / 8) 0).toNat
    obtain ⟨m, HM⟩ := hid_intro (n % 8)
    rw [← HX.out] at hrow hX HWn
    rw [← HM.out] at hX HWn
    have hm8 : m < 8 := by rw [HM.out]; omega
    have hab := add_byte m hm8 X hX v hv
    have hor := or_byte X v m hX hv hm8
    obtain ⟨Vv, HV⟩ := hid_intro (v * 2 ^ m)
    rw [← HV.out] at hab HWn
    have hVv : Vv < 256 := by omega
    have hw1 : (v : Int) * 2 ^ m = (Vv : Int) := by rw [HV.out]; simp
    rw [hw1, ← HV.out, wrap64_in' _ (by omega), Int.emod_eq_of_lt (by omega) (by omega)] at hor
    have hput := HB4.out.put (n / 8) (UInt8.ofNat (X + Vv)) (v := ((X + Vv : Nat) : Int)) (by rw [UInt8.toNat_ofNat_of_lt' hab])
    have HP := (show Hid _ from hput)
    have c5 := hput.1.c1
    have f5 := hput.1.free 1
    have hl1 : n / 8 < (out ++ [0]).length := hlen
    clear hput hWn hlen
    obtain ⟨L1, HLL⟩ := hid_intro (out ++ [0]).length
    rw [← HLL.out] at e0 hl1
    obtain ⟨Z, HZ⟩ := hid_intro (X + Vv)
    rw [← HZ.out] at hor c5 f5 HP HWn hab
    have HXX := (show Hid _ from hX)
    have hw2 : IntKind.i64.wrap (Vv : Int) = (Vv : Int) := wrap_i64_in Vv (by omega)
    have hw3 : wrap64 (Vv : Int) = (Vv : Int) := wrap64_in' _ (by omega)
    have hw4' : IntKind.u8.wrap (Vv : Int) = (Vv : Int) := by rw [IntKind.wrap_u8]; exact Int.emod_eq_of_lt (Int.natCast_nonneg _) (Int.ofNat_lt.2 hVv)
    have hq1 : IntKind.i64.wrap ((n : Int) / 8) = ((n / 8 : Nat) : Int) := by rw [IntKind.wrap_i64]; omega
    have hq3 : 0 ≤ (n : Int) / 8 := by omega
    have hq4 : (n : Int) / 8 < (L1 : Int) := by omega
    have hq5 : ((n : Int) / 8).toNat = n / 8 := by omega
    have hq6 : (n : Int).tmod 8 = (m : Int) := by rw [HM.out, Int.tmod_eq_emod_of_nonneg (by omega)]; omega
    clear h8 hX
    refine region_tail 21 (by kernel_rfl) (by kernel_rfl) ?_
    simp only [List.take_succ_cons, List.take_zero, List.drop_succ_cons, List.drop_zero]
    repeat still_step
    refine wpStill_nil ?_
    go_wp2
    obtain ⟨q1, q2⟩ := HP.out.1.count (n + 1) (by omega) (v := (n : Int) + 1) (by omega)
    have eb : (b ++ [v]).length = n + 1 := by rw [List.length_append, ← HN.out]; rfl
    refine bodyPost_end (results_none rfl _ _ _) rfl ⟨rfl, _, ⟨_, HWn.out, by rw [eb]; exact q1.drew⟩, ((HS4.out.trans HP.out.2).trans q2).drew⟩
  · have h8' : ((n : Int) % 8 == 0) = false := by simp; omega
    go_wp2
    obtain ⟨g2, rfl⟩ : ∃ g2, ao = some ⟨g2, 0, none⟩ := by
      rcases HB.out.own.2 with ⟨_, h0⟩ | ⟨b2, _, _, e, _⟩
      · have := HWL.out; omega
      · injection e with e; exact ⟨b2, e⟩
    have HB4 := HB
    obtain ⟨w4, hw4⟩ := hid_intro w
    have HS4 : Hid (Step g (Value.slice (some ⟨g2, 0, none⟩) out.length cap) (Value.slice (some ⟨g2, 0, none⟩) out.length cap) w w4) := by show Step _ _ _ _ _; rw [hw4.out]; exact Step.refl ..
    rw [← hw4.out] at HB4 ⊢
    clear h1 h0 hf0
    have hst := Wrote.step HW.out v hv (out1 := out) (by rw [← HN.out]; rw [if_neg h8])
    rw [← HN.out] at hst
    obtain ⟨hX, hlen, hWn⟩ := hst
    have hrow : w4.cell? ⟨g2, n / 8, none⟩ = some (.int .u8 (((out.getD (n / 8) 0).toNat : Nat) : Int)) := by
      have hc := HB4.out.own.cellAt (n / 8) (by omega)
      rw [hc]
      have : n / 8 < out.length := hlen
      exact byteCells_get _ _ this
    have hfz : w4.frozen? ⟨g2, n / 8, none⟩ = false := HB4.out.own.frozenAt (n / 8)
    have e0 := HB4.out.c0
    have e1 := HB4.out.c1
    have HWn := (show Hid (Wrote _ _) from hWn)
    obtain ⟨X, HX⟩ := hid_intro (out.getD (n / 8) 0).toNat
    obtain ⟨m, HM⟩ := hid_intro (n % 8)
    rw [← HX.out] at hrow hX HWn
    rw [← HM.out] at hX HWn
    have hm8 : m < 8 := by rw [HM.out]; omega
    have hab := add_byte m hm8 X hX v hv
    have hor := or_byte X v m hX hv hm8
    obtain ⟨Vv, HV⟩ := hid_intro (v * 2 ^ m)
    rw [← HV.out] at hab HWn
    have hVv : Vv < 256 := by omega
    have hw1 : (v : Int) * 2 ^ m = (Vv : Int) := by rw [HV.out]; simp
    rw [hw1, ← HV.out, wrap64_in' _ (by omega), Int.emod_eq_of_lt (by omega) (by omega)] at hor
    have hput := HB4.out.put (n / 8) (UInt8.ofNat (X + Vv)) (v := ((X + Vv : Nat) : Int)) (by rw [UInt8.toNat_ofNat_of_lt' hab])
    have HP := (show Hid _ from hput)
    have c5 := hput.1.c1
    have f5 := hput.1.free 1
    have hl1 : n / 8 < out.length := hlen
    clear hput hWn hlen
    obtain ⟨L1, HLL⟩ := hid_intro out.length
    rw [← HLL.out] at e0 hl1
    obtain ⟨Z, HZ⟩ := hid_intro (X + Vv)
    rw [← HZ.out] at hor c5 f5 HP HWn hab
    have HXX := (show Hid _ from hX)
    have hw2 : IntKind.i64.wrap (Vv : Int) = (Vv : Int) := wrap_i64_in Vv (by omega)
    have hw3 : wrap64 (Vv : Int) = (Vv : Int) := wrap64_in' _ (by omega)
    have hw4' : IntKind.u8.wrap (Vv : Int) = (Vv : Int) := by rw [IntKind.wrap_u8]; exact Int.emod_eq_of_lt (Int.natCast_nonneg _) (Int.ofNat_lt.2 hVv)
    have hq1 : IntKind.i64.wrap ((n : Int) / 8) = ((n / 8 : Nat) : Int) := by rw [IntKind.wrap_i64]; omega
    have hq3 : 0 ≤ (n : Int) / 8 := by omega
    have hq4 : (n : Int) / 8 < (L1 : Int) := by omega
    have hq5 : ((n : Int) / 8).toNat = n / 8 := by omega
    have hq6 : (n : Int).tmod 8 = (m : Int) := by rw [HM.out, Int.tmod_eq_emod_of_nonneg (by omega)]; omega
    clear h8 h8' hX
    refine region_tail 21 (by kernel_rfl) (by kernel_rfl) ?_
    simp only [List.take_succ_cons, List.take_zero, List.drop_succ_cons, List.drop_zero]
    repeat still_step
    refine wpStill_nil ?_
    go_wp2
    obtain ⟨q1, q2⟩ := HP.out.1.count (n + 1) (by omega) (v := (n : Int) + 1) (by omega)
    have eb : (b ++ [v]).length = n + 1 := by rw [List.length_append, ← HN.out]; rfl
    refine bodyPost_end (results_none rfl _ _ _) rfl ⟨rfl, _, ⟨_, HWn.out, by rw [eb]; exact q1.drew⟩, ((HS4.out.trans HP.out.2).trans q2).drew⟩
end
end Go.Proofs.YtgfbbcnnmoamnaaGreatDoor
