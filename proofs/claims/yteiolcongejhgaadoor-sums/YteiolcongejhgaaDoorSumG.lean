/- What the program's sum of a text is. -/
import Derived.Test.YteiolcongejhgaaDoorSumF
import Derived.Deep.RegionWith
import Derived.Deep.Cut
import Derived.ShutString
namespace Go.Proofs.YteiolcongejhgaaDoor
open Go.RowKit

theorem KeysAt.alloc {w : World} (h : KeysAt w) (o : Obj) : KeysAt (w.alloc o) :=
  h.below ((Below.refl w.heap.size w).alloc (Nat.le_refl _) o) h.1
theorem KeysAt.drew {w : World} (h : KeysAt w) : KeysAt w.drew := h

theorem foldAll_lit (l : List W32) (hl : l.length = 8) (s : ByteArray) (m : Nat) (hm : s.size = 64 * m) (hs : s.size ≤ 140737488355328) (w : World) (hK : KeysAt w) :
    Calls Tryd.prog 12 #[.agg (row l), .string s] w fun en w' => ∃ a b c d e f g h, Hid (foldB l s.data.toList m = [a, b, c, d, e, f, g, h]) ∧ en = .returned (.agg #[.int .u32 (BitVec.toNat a : Int), .int .u32 (BitVec.toNat b : Int), .int .u32 (BitVec.toNat c : Int), .int .u32 (BitVec.toNat d : Int), .int .u32 (BitVec.toNat e : Int), .int .u32 (BitVec.toNat f : Int), .int .u32 (BitVec.toNat g : Int), .int .u32 (BitVec.toNat h : Int)]) ∧ Below w.heap.size w w' := by
  refine (foldAll_any l hl s m hm hs w hK).mono ?_
  rintro en w' ⟨rfl, hb⟩
  obtain ⟨a, b, c, d, e, f, g, h, hx⟩ := len8 _ (foldB_len l hl s.data.toList m)
  exact ⟨a, b, c, d, e, f, g, h, hx, by rw [hx]; rfl, hb⟩
theorem foldAll_lit2 (a b c d e f g h : W32) (s : ByteArray) (m : Nat) (hm : s.size = 64 * m) (hs : s.size ≤ 140737488355328) (w : World) (hK : KeysAt w) :
    Calls Tryd.prog 12 #[.agg #[.int .u32 (BitVec.toNat a : Int), .int .u32 (BitVec.toNat b : Int), .int .u32 (BitVec.toNat c : Int), .int .u32 (BitVec.toNat d : Int), .int .u32 (BitVec.toNat e : Int), .int .u32 (BitVec.toNat f : Int), .int .u32 (BitVec.toNat g : Int), .int .u32 (BitVec.toNat h : Int)], .string s] w fun en w' => ∃ a' b' c' d' e' f' g' h', Hid (foldB [a, b, c, d, e, f, g, h] s.data.toList m = [a', b', c', d', e', f', g', h']) ∧ en = .returned (.agg #[.int .u32 (BitVec.toNat a' : Int), .int .u32 (BitVec.toNat b' : Int), .int .u32 (BitVec.toNat c' : Int), .int .u32 (BitVec.toNat d' : Int), .int .u32 (BitVec.toNat e' : Int), .int .u32 (BitVec.toNat f' : Int), .int .u32 (BitVec.toNat g' : Int), .int .u32 (BitVec.toNat h' : Int)]) ∧ Below w.heap.size w w' :=
  foldAll_lit [a, b, c, d, e, f, g, h] rfl s m hm hs w hK
theorem bytes_lit (a b c d e f g h : W32) (w : World) :
    Calls Tryd.prog 15 #[.agg #[.int .u32 (BitVec.toNat a : Int), .int .u32 (BitVec.toNat b : Int), .int .u32 (BitVec.toNat c : Int), .int .u32 (BitVec.toNat d : Int), .int .u32 (BitVec.toNat e : Int), .int .u32 (BitVec.toNat f : Int), .int .u32 (BitVec.toNat g : Int), .int .u32 (BitVec.toNat h : Int)]] w fun en w' => en = .returned (.agg (brow (bytesL [a, b, c, d, e, f, g, h]))) ∧ Below w.heap.size w w' :=
  bytesOf_any [a, b, c, d, e, f, g, h] rfl w

/-- eight words stored into a block, one behind the other -/
abbrev st8 (w : World) (G : Nat) (x0 x1 x2 x3 x4 x5 x6 x7 : Value) : World :=
  (((((((w.setCell ⟨G, 0, none⟩ x0).setCell ⟨G, 1, none⟩ x1).setCell ⟨G, 2, none⟩ x2).setCell ⟨G, 3, none⟩ x3).setCell ⟨G, 4, none⟩ x4).setCell ⟨G, 5, none⟩ x5).setCell ⟨G, 6, none⟩ x6).setCell ⟨G, 7, none⟩ x7
theorem set8 {w : World} {G : Nat} {y0 y1 y2 y3 y4 y5 y6 y7 : Value} (hZ : w.heap[G]? = some (.cells #[y0, y1, y2, y3, y4, y5, y6, y7] 39 (0, 0))) (x0 x1 x2 x3 x4 x5 x6 x7 : Value) :
    (st8 w G x0 x1 x2 x3 x4 x5 x6 x7).heap[G]? = some (.cells #[x0, x1, x2, x3, x4, x5, x6, x7] 39 (0, 0)) := by
  have h0 := heap_setCell_same _ _ 0 _ _ x0 hZ
  have h1 := heap_setCell_same _ _ 1 _ _ x1 h0
  have h2 := heap_setCell_same _ _ 2 _ _ x2 h1
  have h3 := heap_setCell_same _ _ 3 _ _ x3 h2
  have h4 := heap_setCell_same _ _ 4 _ _ x4 h3
  have h5 := heap_setCell_same _ _ 5 _ _ x5 h4
  have h6 := heap_setCell_same _ _ 6 _ _ x6 h5
  have h7 := heap_setCell_same _ _ 7 _ _ x7 h6
  simpa using h7
theorem oth8 {w : World} {G b : Nat} (hb : b ≠ G) (x0 x1 x2 x3 x4 x5 x6 x7 : Value) : (st8 w G x0 x1 x2 x3 x4 x5 x6 x7).heap[b]? = w.heap[b]? := by
  simp only [st8]
  repeat rw [heap_setCell_other _ _ _ _ (by simpa using hb)]
theorem below8 {B : Nat} {a w : World} (h : Below B a w) {G : Nat} (hG : B ≤ G) (x0 x1 x2 x3 x4 x5 x6 x7 : Value) : Below B a (st8 w G x0 x1 x2 x3 x4 x5 x6 x7) :=
  (((((((h.setCell (p := ⟨G, 0, none⟩) hG _).setCell (p := ⟨G, 1, none⟩) hG _).setCell (p := ⟨G, 2, none⟩) hG _).setCell (p := ⟨G, 3, none⟩) hG _).setCell (p := ⟨G, 4, none⟩) hG _).setCell (p := ⟨G, 5, none⟩) hG _).setCell (p := ⟨G, 6, none⟩) hG _).setCell (p := ⟨G, 7, none⟩) hG _
theorem zcell {w : World} {G : Nat} {z : Value} (hZ : w.heap[G]? = some (.cells #[z, z, z, z, z, z, z, z] 39 (0, 0))) : ∀ j, j < 8 → w.cell? ⟨G, j, none⟩ = some z := by
  intro j hj
  rw [cell_of_row _ _ _ _ _ _ hZ]
  match j, hj with
  | 0, _ => rfl
  | 1, _ => rfl
  | 2, _ => rfl
  | 3, _ => rfl
  | 4, _ => rfl
  | 5, _ => rfl
  | 6, _ => rfl
  | 7, _ => rfl
theorem zfree {w : World} {G : Nat} {c : Array Value} (hZ : w.heap[G]? = some (.cells c 39 (0, 0))) : ∀ j, w.frozen? ⟨G, j, none⟩ = false := fun j => frozen_of_row _ _ j _ _ hZ

/-- the blocks of the sum's making: the result, the state -/
def OfInv (w : World) (G : Nat) (st : List W32) (wr : World) : Prop :=
  wr.heap[w.heap.size]? = some (.cells (brow (bpart [] 0)) 25 (0, 0)) ∧ wr.heap[G]? = some (.cells (row st) 39 (0, 0)) ∧ w.heap.size < G ∧ Below w.heap.size w wr
theorem OfInv.call {w : World} {G : Nat} {st : List W32} {wr w2 : World} (i : OfInv w G st wr) (hb : Below wr.heap.size wr w2) : OfInv w G st w2 :=
  ⟨(hb.block _ (lt_of_block i.1)).trans i.1, (hb.block _ (lt_of_block i.2.1)).trans i.2.1, i.2.2.1, i.2.2.2.trans (hb.mono i.2.2.2.size)⟩
theorem OfInv.drew {w : World} {G : Nat} {st : List W32} {wr : World} (i : OfInv w G st wr) : OfInv w G st wr.drew := ⟨i.1, i.2.1, i.2.2.1, i.2.2.2.drew⟩
theorem OfInv.row {w : World} {G : Nat} {st st' : List W32} {wr : World} (i : OfInv w G st wr) : OfInv w G st' (wr.setRow G (row st')) :=
  ⟨(setRow_other wr _ _ _ (by have := i.2.2.1; omega)).trans i.1, setRow_heap _ _ _ _ _ _ i.2.1, i.2.2.1, below_row i.2.2.2 (by have := i.2.2.1; omega) _⟩

theorem ofA {w w1 w2 : World} {R : Array Value} (hR : R = brow (bpart [] 0)) (hb1 : Below (w.alloc (.cells R 25)).drew.heap.size (w.alloc (.cells R 25)).drew w1) (hb2 : Below w1.heap.size w1 w2) (a b c d e f g h : W32) :
    OfInv w w2.heap.size [a, b, c, d, e, f, g, h] (w2.alloc (.cells (row [a, b, c, d, e, f, g, h]) 39)) := by
  subst hR
  have z1 := hb1.size
  have z2 := hb2.size
  simp at z1
  have r1 : w1.heap[w.heap.size]? = _ := (hb1.block _ (by simp)).trans (heap_alloc_new w _)
  have r2 := (hb2.block _ (lt_of_block r1)).trans r1
  exact ⟨alloc_keeps r2, heap_alloc_new w2 _, by omega, ((((Below.refl _ _).alloc (Nat.le_refl _) _).drew.trans (hb1.mono (by simp))).trans (hb2.mono (by omega))).alloc (by omega) _⟩
theorem ofB {w w1 w2 : World} {R Z : Array Value} (hR : R = brow (bpart [] 0)) (hb1 : Below (w.alloc (.cells R 25)).drew.heap.size (w.alloc (.cells R 25)).drew w1) (hb2 : Below (w1.alloc (.cells Z 39)).heap.size (w1.alloc (.cells Z 39)) w2) {z : Value} (hZ : w2.heap[w1.heap.size]? = some (.cells #[z, z, z, z, z, z, z, z] 39 (0, 0))) (a b c d e f g h : W32) :
    OfInv w w1.heap.size [a, b, c, d, e, f, g, h] (st8 w2 w1.heap.size (.int .u32 (a.toNat : Int)) (.int .u32 (b.toNat : Int)) (.int .u32 (c.toNat : Int)) (.int .u32 (d.toNat : Int)) (.int .u32 (e.toNat : Int)) (.int .u32 (f.toNat : Int)) (.int .u32 (g.toNat : Int)) (.int .u32 (h.toNat : Int))) := by
  subst hR
  have z1 := hb1.size
  have z2 := hb2.size
  simp at z1 z2
  have r1 : w1.heap[w.heap.size]? = _ := (hb1.block _ (by simp)).trans (heap_alloc_new w _)
  have r2 := (hb2.block _ (by simp; omega)).trans (alloc_keeps r1)
  exact ⟨(oth8 (by omega) _ _ _ _ _ _ _ _).trans r2, set8 hZ _ _ _ _ _ _ _ _, by omega, below8 ((((Below.refl _ _).alloc (Nat.le_refl _) _).drew.trans (hb1.mono (by simp))).trans (((Below.refl _ _).alloc (by omega) _).trans (hb2.mono (by simp; omega)))) (by omega) _ _ _ _ _ _ _ _⟩
theorem ofC {w w1 w2 : World} {R Z : Array Value} (hR : R = brow (bpart [] 0)) (hb1 : Below ((w.alloc (.cells R 25)).alloc (.cells Z 39)).drew.heap.size ((w.alloc (.cells R 25)).alloc (.cells Z 39)).drew w1) (hb2 : Below w1.heap.size w1 w2) {z : Value} (hZ : w2.heap[w.heap.size + 1]? = some (.cells #[z, z, z, z, z, z, z, z] 39 (0, 0))) (a b c d e f g h : W32) :
    OfInv w (w.heap.size + 1) [a, b, c, d, e, f, g, h] (st8 w2 (w.heap.size + 1) (.int .u32 (a.toNat : Int)) (.int .u32 (b.toNat : Int)) (.int .u32 (c.toNat : Int)) (.int .u32 (d.toNat : Int)) (.int .u32 (e.toNat : Int)) (.int .u32 (f.toNat : Int)) (.int .u32 (g.toNat : Int)) (.int .u32 (h.toNat : Int))) := by
  subst hR
  have z1 := hb1.size
  have z2 := hb2.size
  simp at z1
  have r1 : w1.heap[w.heap.size]? = _ := (hb1.block _ (by simp; omega)).trans (heap_alloc2_old w _ _)
  have r2 := (hb2.block _ (lt_of_block r1)).trans r1
  exact ⟨(oth8 (by omega) _ _ _ _ _ _ _ _).trans r2, set8 hZ _ _ _ _ _ _ _ _, by omega, below8 (((((Below.refl _ _).alloc (Nat.le_refl _) _).alloc (by simp) _).drew.trans (hb1.mono (by simp; omega))).trans (hb2.mono (by omega))) (by omega) _ _ _ _ _ _ _ _⟩

theorem OfInv.put {w : World} {G : Nat} {x0 x1 x2 x3 x4 x5 x6 x7 a b c d e f g h : W32} {wr : World} (i : OfInv w G [x0, x1, x2, x3, x4, x5, x6, x7] wr) :
    OfInv w G [a, b, c, d, e, f, g, h] (st8 wr G (.int .u32 (a.toNat : Int)) (.int .u32 (b.toNat : Int)) (.int .u32 (c.toNat : Int)) (.int .u32 (d.toNat : Int)) (.int .u32 (e.toNat : Int)) (.int .u32 (f.toNat : Int)) (.int .u32 (g.toNat : Int)) (.int .u32 (h.toNat : Int))) := by
  have hlt := i.2.2.1
  refine ⟨(oth8 (by omega) _ _ _ _ _ _ _ _).trans i.1, ?_, hlt, below8 i.2.2.2 (by omega) _ _ _ _ _ _ _ _⟩
  have hz : wr.heap[G]? = some (.cells #[.int .u32 (x0.toNat : Int), .int .u32 (x1.toNat : Int), .int .u32 (x2.toNat : Int), .int .u32 (x3.toNat : Int), .int .u32 (x4.toNat : Int), .int .u32 (x5.toNat : Int), .int .u32 (x6.toNat : Int), .int .u32 (x7.toNat : Int)] 39 (0, 0)) := i.2.1
  exact set8 hz _ _ _ _ _ _ _ _
theorem OfInv.cells {w : World} {G : Nat} {a b c d e f g h : W32} {wr : World} (i : OfInv w G [a, b, c, d, e, f, g, h] wr) :
    wr.cell? ⟨G, 0, none⟩ = some (.int .u32 (a.toNat : Int)) ∧ wr.cell? ⟨G, 1, none⟩ = some (.int .u32 (b.toNat : Int)) ∧ wr.cell? ⟨G, 2, none⟩ = some (.int .u32 (c.toNat : Int)) ∧ wr.cell? ⟨G, 3, none⟩ = some (.int .u32 (d.toNat : Int)) ∧
    wr.cell? ⟨G, 4, none⟩ = some (.int .u32 (e.toNat : Int)) ∧ wr.cell? ⟨G, 5, none⟩ = some (.int .u32 (f.toNat : Int)) ∧ wr.cell? ⟨G, 6, none⟩ = some (.int .u32 (g.toNat : Int)) ∧ wr.cell? ⟨G, 7, none⟩ = some (.int .u32 (h.toNat : Int)) := by
  refine ⟨?_, ?_, ?_, ?_, ?_, ?_, ?_, ?_⟩ <;> rw [cell_of_row _ _ _ _ _ _ i.2.1] <;> rfl

/-- the padded text, its blocks, its sum -/
def padded (l : List UInt8) : List UInt8 := l.take (64 * (l.length / 64)) ++ padL (l.drop (64 * (l.length / 64))) l.length
def blocks (l : List UInt8) : Nat := l.length / 64 + (l.length % 64 + 9 + 63) / 64
def sha (l : List UInt8) : List UInt8 := bytesL (foldB first8 (padded l) (blocks l))

theorem sha_of (s T : ByteArray) (m q : Nat) (hm : m = s.size / 64) (hT : T = s.extract (64 * m) s.size) (hq : q = (T.size + 9 + 63) / 64) :
    bytesL (foldB (foldB first8 (s.extract 0 (64 * m)).data.toList m) (padL T.data.toList s.size) q) = sha s.data.toList := by
  have hl : s.data.toList.length = s.size := by simp
  have e1 : (s.extract 0 (64 * m)).data.toList = s.data.toList.take (64 * (s.data.toList.length / 64)) := by
    rw [hl, ← hm]; simp [ByteArray.data_extract, List.extract_eq_take_drop]
  have e2 : T.data.toList = s.data.toList.drop (64 * (s.data.toList.length / 64)) := by
    rw [hl, ← hm, hT]
    simp only [ByteArray.data_extract, Array.toList_extract, List.extract_eq_take_drop]
    rw [List.take_of_length_le]
    simp
  have e3 : T.size = s.size % 64 := by rw [hT, hm]; simp; omega
  unfold sha padded
  rw [← e1, ← e2, hl]
  have e4 : blocks s.data.toList = m + q := by
    unfold blocks
    rw [hl, hq, e3, hm]
  rw [e4, foldB_append _ _ _ m]
  simp
  rw [hm]; omega

set_option maxHeartbeats 1000000 in
theorem of_any (s : ByteArray) (hs : s.size ≤ 140737488351232) (w : World) (hK : KeysAt w) :
    Calls Tryd.prog 7 #[.string s] w fun en w' => en = .returned (.agg (brow (sha s.data.toList))) ∧ Below w.heap.size w w' := by
  obtain ⟨m, HM⟩ : ∃ m, Hid (m = s.size / 64) := ⟨_, rfl⟩
  have hw : (s.size : Int) - (s.size : Int) % 64 = ((64 * m : Nat) : Int) := by rw [HM.out]; omega
  have hm : 64 * m ≤ s.size := by rw [HM.out]; omega
  have hx1 : (s.extract 0 (64 * m)).size = 64 * m := by simp; omega
  go_enter Tryd.func7, Tryd.ntmps7
  go_wp2
  go_cut [4] from 5 (fun p wr => ∃ (G : Nat) (a b c d e f g h : W32), Hid (foldB first8 (s.extract 0 (64 * m)).data.toList m = [a, b, c, d, e, f, g, h]) ∧ p = .pointer (some ⟨G, 0, none⟩) ∧ OfInv w G [a, b, c, d, e, f, g, h] wr)
  case first =>
    go_region_with (first
      | (go_at_call 13; refine (start_any _).mono ?_; rintro e w1 ⟨rfl, hb1⟩)
      | (go_at_call 12; refine (foldAll_lit first8 rfl _ m hx1 (by omega) _ (by first | exact (hK.alloc _).drew.below hb1 (by simp) | exact ((hK.alloc _).drew.below hb1 (by simp)).alloc _ | exact ((hK.alloc _).alloc _).drew.below hb1 (by simp))).mono ?_; rintro e w2 ⟨a, b, c, d, e1, f, g, h, HF, rfl, hb2⟩; first | (have hZB := (hb2.block w1.heap.size (by simp)).trans (heap_alloc_new w1 _); have hc := zcell hZB; have hf := zfree hZB) | (have hZC := (hb2.block (w.heap.size + 1) (by have := hb1.size; simp at this; omega)).trans ((hb1.block (w.heap.size + 1) (by simp)).trans (heap_alloc2_new w _ _)); have hc := zcell hZC; have hf := zfree hZC) | skip))
    all_goals (go_wp2_with fail; go_meet; refine ⟨_, a, b, c, d, e1, f, g, h, HF, rfl, ?_⟩; clear hx1 HF; first | (have q := hZB; exact ofB rfl hb1 hb2 q a b c d e1 f g h) | (have q := hZC; exact ofC rfl hb1 hb2 q a b c d e1 f g h) | exact ofA rfl hb1 hb2 a b c d e1 f g h)
  case rest =>
    obtain ⟨G, a, b, c, d, e, f, g, h, HF, rfl, inv⟩ := hcut
    obtain ⟨T, HT⟩ : ∃ T, Hid (T = s.extract (64 * m) s.size) := ⟨_, rfl⟩
    have sl : ∀ w, (Instr.slice 9 (.string s) (some (.int .i64 (64 * (m : Int)))) none none).run Tryd.prog w = .ok (.string T) w := fun w => by
      rw [run_slice_string_from_if w 9 s .i64 _ Tryd.underlying9, if_pos ⟨by omega, by omega⟩, HT.out]
      have e : (64 * (m : Int)).toNat = 64 * m := by omega
      rw [e]
    have ht : T.size < 64 := by rw [HT.out, HM.out]; simp; omega
    obtain ⟨q, HQ⟩ : ∃ q, Hid (q = (T.size + 9 + 63) / 64) := ⟨_, rfl⟩
    have hpz : (⟨(padL T.data.toList s.size).toArray⟩ : ByteArray).size = 64 * q := by
      rw [HQ.out, size_of_list, padL_len]; rfl
    have hq2 : q ≤ 2 := by rw [HQ.out]; omega
    obtain ⟨c0, c1, c2, c3, c4, c5, c6, c7⟩ := inv.cells
    go_wp2
    go_cut [] from 5 (fun wr => ∃ (a' b' c' d' e' f' g' h' : W32), Hid (foldB [a, b, c, d, e, f, g, h] (padL T.data.toList s.size) q = [a', b', c', d', e', f', g', h']) ∧ OfInv w G [a', b', c', d', e', f', g', h'] wr)
    case first =>
      go_region_with (first
        | (go_at_call 14; refine (pad_any _ s.size ht (by omega) _).mono ?_; rintro en w3 ⟨rfl, hb3⟩; have inv3 := inv.drew.call hb3; obtain ⟨k0, k1, k2, k3, k4, k5, k6, k7⟩ := inv3.cells)
        | (go_at_call 12; refine (foldAll_lit2 _ _ _ _ _ _ _ _ _ q hpz (by omega) _ (hK.below inv3.2.2.2 hK.1)).mono ?_; rintro en w4 ⟨a', b', c', d', e', f', g', h', HF2, rfl, hb4⟩; have inv4 := inv3.call hb4; obtain ⟨l0, l1, l2, l3, l4, l5, l6, l7⟩ := inv4.cells; have hf4 := zfree inv4.2.1))
      all_goals (go_wp2_with fail; go_meet; exact ⟨a', b', c', d', e', f', g', h', HF2, inv4.put⟩)
    case rest =>
      clear inv c0 c1 c2 c3 c4 c5 c6 c7
      obtain ⟨a', b', c', d', e', f', g', h', HF2, inv⟩ := hcut
      go_wp2_with (first
        | (refine wpList_load_row rfl 39 (.tmp 4) rfl G rfl 39 _ (0, 0) _ inv.2.1 Tryd.underlying39 rfl size39 ?_)
        | (go_at_call 15; refine (bytesOf_any [a', b', c', d', e', f', g', h'] rfl _).mono ?_; rintro en w5 ⟨rfl, hb5⟩; have inv5 := inv.call hb5)
        | (refine wpList_store_row rfl 25 (.tmp 2) _ rfl w.heap.size _ rfl rfl 25 _ inv5.1 (by rw [brow_size, bytesL_len]; exact size25) (by rw [brow_size, brow_size, bytesL_len, bpart_len]) (brow_one _) ?_))
      refine bodyPost_ret_by (v := .agg (brow (bytesL [a', b', c', d', e', f', g', h']))) (results_cell_row Tryd.results7 _ _ w.heap.size 25 _ (0, 0) _ rfl (setRow_heap _ _ _ _ _ _ inv5.1) Tryd.underlying25 rfl (by rw [brow_size, bytesL_len]; exact size25)) rfl ⟨?_, below_row inv5.2.2.2 (Nat.le_refl _) _⟩
      rw [← HF2.out, ← HF.out, sha_of s T m q HM.out HT.out HQ.out]

theorem sha_len (l : List UInt8) : (sha l).length = 32 := bytesL_len _

theorem sum_any (s : ByteArray) (hs : s.size ≤ 140737488351232) (w : World) (hK : KeysAt w) :
    Calls Tryd.prog 4 #[.string s] w fun en w' => en = .returned (.string ⟨(hexL (sha s.data.toList)).toArray⟩) ∧ Below w.heap.size w w' := by
  go_enter Tryd.func4, Tryd.ntmps4
  go_wp2_with (first
    | (go_at_call 7; refine (of_any s hs _ hK).mono ?_; rintro en w1 ⟨rfl, hb1⟩)
    | (go_at_call 6; refine (text_any _ (sha_len _) _).mono ?_; rintro en w2 ⟨rfl, hb2⟩))
  go_ret
  exact ⟨rfl, hb1.trans (hb2.mono hb1.size)⟩
end Go.Proofs.YteiolcongejhgaaDoor
