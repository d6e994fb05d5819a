/- What the document's block answers. -/
import Derived.Test.YteiolcongejhgaaDoorRefD
namespace Go.Proofs.YteiolcongejhgaaDoor
open Go.RowKit

theorem size38 : (Tryd.prog.info? 38).map (·.size) = some 8 := by kernel_rfl
theorem heap_alloc3_new' (w : World) (A B C : Obj) : (((w.alloc A).alloc B).alloc C).heap[w.heap.size + 1 + 1]? = some C := by
  have h := heap_alloc_new ((w.alloc A).alloc B) C
  simpa using h
theorem made_u32 (n : Nat) : madeCells #[.int .u32 0] n = row (zeros n) := by
  apply Array.ext
  · simp [madeCells, row, zeros]
  · intro i h1 h2
    simp [madeCells, row, zeros, Nat.mod_one]
theorem make_u32 (w : World) :
    (Instr.makeSlice 50 (.int .i64 64) (.int .i64 64)).run Tryd.prog w = .ok (.slice (some ⟨w.heap.size, 0, none⟩) 64 64) (w.alloc (.cells (row (zeros 64)) 37 (0, 0))) := by
  have h := run_make_row' (P := Tryd.prog) 50 37 (.int .u32 0) 4 Tryd.underlying50 info37 rfl .i64 .i64 64 (by omega) (by omega) w
  rw [made_u32] at h
  exact h

theorem be4_sum (a b c d : UInt8) : ((a.toNat : Int) % 4294967296 * 16777216 + (b.toNat : Int) % 4294967296 * 65536 + (c.toNat : Int) % 4294967296 * 256 + (d.toNat : Int)) % 4294967296 = ((be4 a.toNat b.toNat c.toNat d.toNat).toNat : Int) := by
  have ha := a.toNat_lt
  have hb := b.toNat_lt
  have hc := c.toNat_lt
  have hd := d.toNat_lt
  rw [be4_toNat _ _ _ _ ha hb hc hd]
  omega
theorem sig0_int (x : W32) : bits .xor .u32 (bits .xor .u32 ((rr x 7).toNat : Int) ((rr x 18).toNat : Int)) ((x.toNat : Int) / 8) = ((sS0 x).toNat : Int) := by
  have h8 := b_shr x 3
  simp only [show (2 : Int) ^ 3 = 8 from rfl] at h8
  rw [h8, b_xor, b_xor]; rfl
theorem sig1_int (x : W32) : bits .xor .u32 (bits .xor .u32 ((rr x 17).toNat : Int) ((rr x 19).toNat : Int)) ((x.toNat : Int) / 1024) = ((sS1 x).toNat : Int) := by
  have h8 := b_shr x 10
  simp only [show (2 : Int) ^ 10 = 1024 from rfl] at h8
  rw [h8, b_xor, b_xor]; rfl

/-- the words of 64 bytes -/
def wl (bs : List UInt8) (i : Nat) : W32 := be4 (bs.getD (4 * i) 0).toNat (bs.getD (4 * i + 1) 0).toNat (bs.getD (4 * i + 2) 0).toNat (bs.getD (4 * i + 3) 0).toNat

/-- the blocks of the document's block: the old state, the result, the schedule -/
def BlkInv (w : World) (h ws : List W32) (wr : World) : Prop :=
  wr.heap[w.heap.size]? = some (.cells (row h) 38 (0, 0)) ∧ wr.heap[w.heap.size + 1]? = some (.cells (row (zeros 8)) 38 (0, 0)) ∧ wr.heap[w.heap.size + 1 + 1]? = some (.cells (row ws) 37 (0, 0)) ∧ Below w.heap.size w wr
theorem BlkInv.same {w : World} {h ws : List W32} {wr wx : World} (i : BlkInv w h ws wr) (e : wx.heap = wr.heap) (ho : Below w.heap.size w wx) : BlkInv w h ws wx := by
  unfold BlkInv; rw [e]; exact ⟨i.1, i.2.1, i.2.2.1, ho⟩
theorem BlkInv.cell {w : World} {h ws : List W32} {wr : World} (i : BlkInv w h ws wr) (k : Nat) {v : Int} (x : W32) (hv : v = (x.toNat : Int)) : BlkInv w h (ws.set k x) (wr.setCell ⟨w.heap.size + 1 + 1, k, none⟩ (.int .u32 v)) := by
  subst hv
  exact ⟨(heap_setCell_other wr _ _ _ (by simp; omega)).trans i.1, (heap_setCell_other wr _ _ _ (by simp)).trans i.2.1, row_step x i.2.2.1, i.2.2.2.setCell (by simp; omega) _⟩
theorem BlkInv.drew {w : World} {h ws : List W32} {wr : World} (i : BlkInv w h ws wr) : BlkInv w h ws wr.drew := ⟨i.1, i.2.1, i.2.2.1, i.2.2.2.drew⟩
theorem BlkInv.drewN {w : World} {h ws : List W32} {wr : World} (i : BlkInv w h ws wr) (n : Nat) : BlkInv w h ws (wr.drewN n) := ⟨i.1, i.2.1, i.2.2.1, below_drewN i.2.2.2 n⟩

/-- .. and the state that turns -/
def Blk2 (w : World) (G : Nat) (h ws st : List W32) (wr : World) : Prop :=
  BlkInv w h ws wr ∧ wr.heap[G]? = some (.cells (row st) 38 (0, 0)) ∧ w.heap.size + 1 + 1 < G
theorem Blk2.drewN {w : World} {G : Nat} {h ws st : List W32} {wr : World} (i : Blk2 w G h ws st wr) (n : Nat) : Blk2 w G h ws st (wr.drewN n) := ⟨i.1.drewN n, i.2.1, i.2.2⟩
theorem Blk2.cells {w : World} {G : Nat} {hh ws : List W32} {a b c d e f g h : W32} {wr : World} (i : Blk2 w G hh ws [a, b, c, d, e, f, g, h] wr) :
    wr.cell? ⟨G, 0, none⟩ = some (.int .u32 (a.toNat : Int)) ∧ wr.cell? ⟨G, 1, none⟩ = some (.int .u32 (b.toNat : Int)) ∧ wr.cell? ⟨G, 2, none⟩ = some (.int .u32 (c.toNat : Int)) ∧ wr.cell? ⟨G, 3, none⟩ = some (.int .u32 (d.toNat : Int)) ∧
    wr.cell? ⟨G, 4, none⟩ = some (.int .u32 (e.toNat : Int)) ∧ wr.cell? ⟨G, 5, none⟩ = some (.int .u32 (f.toNat : Int)) ∧ wr.cell? ⟨G, 6, none⟩ = some (.int .u32 (g.toNat : Int)) ∧ wr.cell? ⟨G, 7, none⟩ = some (.int .u32 (h.toNat : Int)) := by
  refine ⟨?_, ?_, ?_, ?_, ?_, ?_, ?_, ?_⟩ <;> rw [cell_of_row _ _ _ _ _ _ i.2.1] <;> rfl

/-- eight words stored into a block, one behind the other -/
abbrev st8r (w : World) (G : Nat) (x0 x1 x2 x3 x4 x5 x6 x7 : Value) : World :=
  (((((((w.setCell ⟨G, 0, none⟩ x0).setCell ⟨G, 1, none⟩ x1).setCell ⟨G, 2, none⟩ x2).setCell ⟨G, 3, none⟩ x3).setCell ⟨G, 4, none⟩ x4).setCell ⟨G, 5, none⟩ x5).setCell ⟨G, 6, none⟩ x6).setCell ⟨G, 7, none⟩ x7
theorem set8r {w : World} {G : Nat} {y0 y1 y2 y3 y4 y5 y6 y7 : Value} (hZ : w.heap[G]? = some (.cells #[y0, y1, y2, y3, y4, y5, y6, y7] 38 (0, 0))) (x0 x1 x2 x3 x4 x5 x6 x7 : Value) :
    (st8r w G x0 x1 x2 x3 x4 x5 x6 x7).heap[G]? = some (.cells #[x0, x1, x2, x3, x4, x5, x6, x7] 38 (0, 0)) := by
  have h0 := heap_setCell_same _ _ 0 _ _ x0 hZ
  have h1 := heap_setCell_same _ _ 1 _ _ x1 h0
  have h2 := heap_setCell_same _ _ 2 _ _ x2 h1
  have h3 := heap_setCell_same _ _ 3 _ _ x3 h2
  have h4 := heap_setCell_same _ _ 4 _ _ x4 h3
  have h5 := heap_setCell_same _ _ 5 _ _ x5 h4
  have h6 := heap_setCell_same _ _ 6 _ _ x6 h5
  have h7 := heap_setCell_same _ _ 7 _ _ x7 h6
  simpa using h7
theorem oth8r {w : World} {G b : Nat} (hb : b ≠ G) (x0 x1 x2 x3 x4 x5 x6 x7 : Value) : (st8r w G x0 x1 x2 x3 x4 x5 x6 x7).heap[b]? = w.heap[b]? := by
  simp only [st8r]
  repeat rw [heap_setCell_other _ _ _ _ (by simpa using hb)]
theorem below8r {B : Nat} {a w : World} (h : Below B a w) {G : Nat} (hG : B ≤ G) (x0 x1 x2 x3 x4 x5 x6 x7 : Value) : Below B a (st8r w G x0 x1 x2 x3 x4 x5 x6 x7) :=
  (((((((h.setCell (p := ⟨G, 0, none⟩) hG _).setCell (p := ⟨G, 1, none⟩) hG _).setCell (p := ⟨G, 2, none⟩) hG _).setCell (p := ⟨G, 3, none⟩) hG _).setCell (p := ⟨G, 4, none⟩) hG _).setCell (p := ⟨G, 5, none⟩) hG _).setCell (p := ⟨G, 6, none⟩) hG _).setCell (p := ⟨G, 7, none⟩) hG _
theorem Blk2.put {w : World} {G : Nat} {hh ws : List W32} {x0 x1 x2 x3 x4 x5 x6 x7 : W32} {wr : World} (i : Blk2 w G hh ws [x0, x1, x2, x3, x4, x5, x6, x7] wr) (a b c d e f g h : W32) {v0 v4 : Int} (h0 : v0 = (a.toNat : Int)) (h4 : v4 = (e.toNat : Int)) :
    Blk2 w G hh ws [a, b, c, d, e, f, g, h] (st8r wr G (.int .u32 v0) (.int .u32 (b.toNat : Int)) (.int .u32 (c.toNat : Int)) (.int .u32 (d.toNat : Int)) (.int .u32 v4) (.int .u32 (f.toNat : Int)) (.int .u32 (g.toNat : Int)) (.int .u32 (h.toNat : Int))) := by
  subst h0 h4
  have hlt := i.2.2
  have hz : wr.heap[G]? = some (.cells #[.int .u32 (x0.toNat : Int), .int .u32 (x1.toNat : Int), .int .u32 (x2.toNat : Int), .int .u32 (x3.toNat : Int), .int .u32 (x4.toNat : Int), .int .u32 (x5.toNat : Int), .int .u32 (x6.toNat : Int), .int .u32 (x7.toNat : Int)] 38 (0, 0)) := i.2.1
  exact ⟨⟨(oth8r (by omega) _ _ _ _ _ _ _ _).trans i.1.1, (oth8r (by omega) _ _ _ _ _ _ _ _).trans i.1.2.1, (oth8r (by omega) _ _ _ _ _ _ _ _).trans i.1.2.2.1, below8r i.1.2.2.2 (by omega) _ _ _ _ _ _ _ _⟩, set8r hz _ _ _ _ _ _ _ _, hlt⟩
theorem s1_int (e : W32) : bits .xor .u32 (bits .xor .u32 ((rr e 6).toNat : Int) ((rr e 11).toNat : Int)) ((rr e 25).toNat : Int) = ((bS1 e).toNat : Int) := by rw [b_xor, b_xor]; rfl
theorem s0_int (a : W32) : bits .xor .u32 (bits .xor .u32 ((rr a 2).toNat : Int) ((rr a 13).toNat : Int)) ((rr a 22).toNat : Int) = ((bS0 a).toNat : Int) := by rw [b_xor, b_xor]; rfl
theorem ch_int (e f g : W32) : bits .or .u32 (bits .and .u32 (e.toNat : Int) (f.toNat : Int)) (bits .and .u32 (4294967295 - (e.toNat : Int)) (g.toNat : Int)) = ((ch e f g).toNat : Int) := by rw [b_sub, b_and, b_and, b_or, ch_or]
theorem maj_int (a b c : W32) : bits .or .u32 (bits .or .u32 (bits .and .u32 (a.toNat : Int) (b.toNat : Int)) (bits .and .u32 (a.toNat : Int) (c.toNat : Int))) (bits .and .u32 (b.toNat : Int) (c.toNat : Int)) = ((maj a b c).toNat : Int) := by rw [b_and, b_and, b_and, b_or, b_or, maj_or]
theorem new0_int (a b c e f g h kk ww : W32) : ((h.toNat : Int) + bits .xor .u32 (bits .xor .u32 ((rr e 6).toNat : Int) ((rr e 11).toNat : Int)) ((rr e 25).toNat : Int) + bits .or .u32 (bits .and .u32 (e.toNat : Int) (f.toNat : Int)) (bits .and .u32 (4294967295 - (e.toNat : Int)) (g.toNat : Int)) + (kk.toNat : Int) + (ww.toNat : Int) + (bits .xor .u32 (bits .xor .u32 ((rr a 2).toNat : Int) ((rr a 13).toNat : Int)) ((rr a 22).toNat : Int) + bits .or .u32 (bits .or .u32 (bits .and .u32 (a.toNat : Int) (b.toNat : Int)) (bits .and .u32 (a.toNat : Int) (c.toNat : Int))) (bits .and .u32 (b.toNat : Int) (c.toNat : Int)))) % 4294967296 = ((h + bS1 e + ch e f g + (kk + ww) + (bS0 a + maj a b c)).toNat : Int) := by
  rw [s1_int, s0_int, ch_int, maj_int]
  simp only [BitVec.toNat_add]
  omega
theorem new4_int (d e f g h kk ww : W32) : ((d.toNat : Int) + ((h.toNat : Int) + bits .xor .u32 (bits .xor .u32 ((rr e 6).toNat : Int) ((rr e 11).toNat : Int)) ((rr e 25).toNat : Int) + bits .or .u32 (bits .and .u32 (e.toNat : Int) (f.toNat : Int)) (bits .and .u32 (4294967295 - (e.toNat : Int)) (g.toNat : Int)) + (kk.toNat : Int) + (ww.toNat : Int))) % 4294967296 = ((d + (h + bS1 e + ch e f g + (kk + ww))).toNat : Int) := by
  rw [s1_int, ch_int]
  simp only [BitVec.toNat_add]
  omega
theorem mix_comm (a b : List W32) : mix 8 a b = mix 8 b a := by
  unfold mix
  apply List.map_congr_left
  intro j hj
  have : j < 8 := by simpa using hj
  simp [this, BitVec.add_comm]
/-- .. while the old state is added to -/
def Blk3 (w : World) (G : Nat) (m R : List W32) (wr : World) : Prop :=
  wr.heap[w.heap.size]? = some (.cells (row m) 38 (0, 0)) ∧ wr.heap[w.heap.size + 1]? = some (.cells (row (zeros 8)) 38 (0, 0)) ∧ wr.heap[G]? = some (.cells (row R) 38 (0, 0)) ∧ w.heap.size + 1 + 1 < G ∧ Below w.heap.size w wr
theorem Blk3.cell {w : World} {G : Nat} {m R : List W32} {wr : World} (i : Blk3 w G m R wr) (k : Nat) {v : Int} (x : W32) (hv : v = (x.toNat : Int)) : Blk3 w G (m.set k x) R (wr.setCell ⟨w.heap.size, k, none⟩ (.int .u32 v)).drew := by
  subst hv
  have hlt := i.2.2.2.1
  exact ⟨row_step x i.1, (heap_setCell_other wr _ _ _ (by simp)).trans i.2.1, (heap_setCell_other wr _ _ _ (by simp; omega)).trans i.2.2.1, hlt, (i.2.2.2.2.setCell (Nat.le_refl _) _).drew⟩

set_option maxRecDepth 100000 in
set_option maxHeartbeats 1000000 in
theorem block_any (h : List W32) (hh : h.length = 8) (bs : List UInt8) (gb off capb gk capk : Nat) (w : World)
    (hgb : gb < w.heap.size) (hgk : gk < w.heap.size) (hbc : ∀ j, j < 64 → w.cell? ⟨gb, off + j, none⟩ = some (.int .u8 ((bs.getD j 0).toNat : Int)))
    (hkc : ∀ j, j < 64 → w.cell? ⟨gk, j, none⟩ = some (.int .u32 ((keys.getD j 0).toNat : Int))) :
    Calls Tryd.prog 30 #[.agg (row h), .slice (some ⟨gb, off, none⟩) 64 capb, .slice (some ⟨gk, 0, none⟩) 64 capk] w fun en w' => en = .returned (.agg (row (compress h (wl bs)))) ∧ Below w.heap.size w w' := by
  have mk := make_u32
  obtain ⟨f, Hf⟩ : ∃ f, Hid (f = wl bs) := ⟨_, rfl⟩
  rw [← Hf.out]
  have HBC : Hid (∀ j, j < 64 → w.cell? ⟨gb, off + j, none⟩ = some (.int .u8 ((bs.getD j 0).toNat : Int))) := hbc
  have HKC : Hid (∀ j, j < 64 → w.cell? ⟨gk, j, none⟩ = some (.int .u32 ((keys.getD j 0).toNat : Int))) := hkc
  clear hbc hkc
  go_enter Tryd.func30, Tryd.ntmps30
  go_wp2
  clear mk
  go_loopw [8] (fun i wr => ∃ k : Nat, k ≤ 64 ∧ i = .int .i64 k ∧ BlkInv w h (sch f k ++ zeros (64 - k)) wr) (fun i _ => 64 - (intOf i).toNat)
  case atStart => exact ⟨0, by omega, rfl, alloc_keeps (heap_alloc2_old w _ _), alloc_keeps (heap_alloc2_new w _ _), heap_alloc3_new' w _ _ _, (((Below.refl _ _).alloc (Nat.le_refl _) _).alloc (by simp) _).alloc (by simp; omega) _⟩
  case round =>
    obtain ⟨k, hk, rfl, inv⟩ := hrel
    by_cases hlt : k < 64
    · have hl : (sch f k ++ zeros (64 - k)).length = 64 := by simp [sch_len, zeros]; omega
      have c0 := row_cell k inv.2.2.1 (by omega)
      have hf0 := frozen_of_row _ (w.heap.size + 1 + 1) k _ _ inv.2.2.1
      have b0 : (k : Int) < 64 := by omega
      by_cases h16 : k < 16
      · obtain ⟨j0, H0⟩ : ∃ j, Hid (j = 4 * k) := ⟨_, rfl⟩
        obtain ⟨j1, H1⟩ : ∃ j, Hid (j = 4 * k + 1) := ⟨_, rfl⟩
        obtain ⟨j2, H2⟩ : ∃ j, Hid (j = 4 * k + 2) := ⟨_, rfl⟩
        obtain ⟨j3, H3⟩ : ∃ j, Hid (j = 4 * k + 3) := ⟨_, rfl⟩
        have q0 : j0 < 64 := by rw [H0.out]; omega
        have q1 : j1 < 64 := by rw [H1.out]; omega
        have q2 : j2 < 64 := by rw [H2.out]; omega
        have q3 : j3 < 64 := by rw [H3.out]; omega
        have t0 : (j0 : Int) < 64 := by omega
        have t1 : (j1 : Int) < 64 := by omega
        have t2 : (j2 : Int) < 64 := by omega
        have t3 : (j3 : Int) < 64 := by omega
        have e0 := wrap_small (4 * (k : Int)) j0 (by rw [H0.out]; omega) (by omega)
        have e1 := wrap_small ((j0 : Int) + 1) j1 (by rw [H0.out, H1.out]; omega) (by omega)
        have e2 := wrap_small ((j0 : Int) + 2) j2 (by rw [H0.out, H2.out]; omega) (by omega)
        have e3 := wrap_small ((j0 : Int) + 3) j3 (by rw [H0.out, H3.out]; omega) (by omega)
        have x0 := (inv.2.2.2.cell (p := ⟨gb, off + j0, none⟩) hgb).trans (HBC.out j0 q0)
        have x1 := (inv.2.2.2.cell (p := ⟨gb, off + j1, none⟩) hgb).trans (HBC.out j1 q1)
        have x2 := (inv.2.2.2.cell (p := ⟨gb, off + j2, none⟩) hgb).trans (HBC.out j2 q2)
        have x3 := (inv.2.2.2.cell (p := ⟨gb, off + j3, none⟩) hgb).trans (HBC.out j3 q3)
        obtain ⟨y0, Y0⟩ : ∃ y, Hid (y = bs.getD j0 0) := ⟨_, rfl⟩
        obtain ⟨y1, Y1⟩ : ∃ y, Hid (y = bs.getD j1 0) := ⟨_, rfl⟩
        obtain ⟨y2, Y2⟩ : ∃ y, Hid (y = bs.getD j2 0) := ⟨_, rfl⟩
        obtain ⟨y3, Y3⟩ : ∃ y, Hid (y = bs.getD j3 0) := ⟨_, rfl⟩
        rw [← Y0.out] at x0
        rw [← Y1.out] at x1
        rw [← Y2.out] at x2
        rw [← Y3.out] at x3
        have HW : Hid (f k = be4 y0.toNat y1.toNat y2.toNat y3.toNat) := by rw [Hf.out, Y0.out, Y1.out, Y2.out, Y3.out, H0.out, H1.out, H2.out, H3.out]; rfl
        go_wp2
        refine region_tail 35 (by kernel_rfl) (by kernel_rfl) ?_
        simp only [List.take_succ_cons, List.take_zero, List.drop_succ_cons, List.drop_zero]
        repeat still_step
        refine wpStill_nil ?_
        go_wp2
        go_roundw
        case rel =>
          have hv := be4_sum y0 y1 y2 y3
          rw [← HW.out] at hv
          have R := (inv.cell k (f k) hv).drew
          rw [sch_set_lo _ _ h16] at R
          first
            | exact ⟨k + 1, by omega, by go_num, R⟩
            | ((repeat apply Exists.intro); exact ⟨⟨k + 1, by omega, by go_num, R⟩, rfl⟩)
        case measure => simp [intOf]; omega
      · have h16' : 16 ≤ k := by omega
        have c16 := row_cell (k - 16) inv.2.2.1 (by omega)
        have c15 := row_cell (k - 15) inv.2.2.1 (by omega)
        have c7 := row_cell (k - 7) inv.2.2.1 (by omega)
        have c2 := row_cell (k - 2) inv.2.2.1 (by omega)
        rw [sch_get _ _ _ _ (by omega)] at c16 c15 c7 c2
        obtain ⟨x16, X16⟩ : ∃ x, Hid (x = (sch f k).getD (k - 16) 0) := ⟨_, rfl⟩
        obtain ⟨x15, X15⟩ : ∃ x, Hid (x = (sch f k).getD (k - 15) 0) := ⟨_, rfl⟩
        obtain ⟨x7, X7⟩ : ∃ x, Hid (x = (sch f k).getD (k - 7) 0) := ⟨_, rfl⟩
        obtain ⟨x2, X2⟩ : ∃ x, Hid (x = (sch f k).getD (k - 2) 0) := ⟨_, rfl⟩
        rw [← X16.out] at c16
        rw [← X15.out] at c15
        rw [← X7.out] at c7
        rw [← X2.out] at c2
        have HN : Hid (nextW (sch f k) = x16 + sS0 x15 + x7 + sS1 x2) := by rw [X16.out, X15.out, X7.out, X2.out, nextW, sch_len]; rfl
        have e16 := wrap_small ((k : Int) - 16) (k - 16) (by omega) (by omega)
        have e7 := wrap_small ((k : Int) - 7) (k - 7) (by omega) (by omega)
        have b16 : ((k - 16 : Nat) : Int) < 64 := by omega
        have b7 : ((k - 7 : Nat) : Int) < 64 := by omega
        go_wp2_with (go_at_call 41; refine (turned_z _ _ (by decide) (by decide) _).mono ?_; rintro en wz ⟨rfl, m, rfl⟩)
        refine region_tail 17 (by kernel_rfl) (by kernel_rfl) ?_
        simp only [List.take_succ_cons, List.take_zero, List.drop_succ_cons, List.drop_zero]
        repeat still_step
        refine wpStill_nil ?_
        go_wp2
        go_roundw
        case rel =>
          have hv : ((x16.toNat : Int) + bits .xor .u32 (bits .xor .u32 ((rr x15 7).toNat : Int) ((rr x15 18).toNat : Int)) ((x15.toNat : Int) / 8) + (x7.toNat : Int) + bits .xor .u32 (bits .xor .u32 ((rr x2 17).toNat : Int) ((rr x2 19).toNat : Int)) ((x2.toNat : Int) / 1024)) % 4294967296 = ((nextW (sch f k)).toNat : Int) := by
            rw [HN.out, sig0_int, sig1_int]; simp [BitVec.toNat_add]
          have R := fun M => (inv.drewN M).cell k (nextW (sch f k)) hv
          rw [sch_set_hi _ _ h16' hlt] at R
          first
            | exact ⟨k + 1, by omega, by go_num, R _⟩
            | ((repeat apply Exists.intro); exact ⟨⟨k + 1, by omega, by go_num, R _⟩, rfl⟩)
        case measure => simp [intOf]; omega
    · obtain rfl : k = 64 := by omega
      have hsz := inv.2.2.2.size
      have hG2 : w.heap.size + 1 + 1 < wr.heap.size := lt_of_block inv.2.2.1
      have i3 : ∀ o, (wr.alloc o).heap[wr.heap.size]? = some o := fun o => heap_alloc_new wr o
      go_wp2_with (first
        | (refine wpList_load_row rfl 38 (.tmp 3) rfl w.heap.size rfl 38 _ (0, 0) _ inv.1 Tryd.underlying38 rfl (by rw [row_size, hh]; exact size38) ?_)
        | (refine wpList_store_row rfl 38 (.tmp 13) (.tmp 109) rfl wr.heap.size _ rfl rfl 38 _ (i3 _) (by rw [row_size, hh]; exact size38) (by rw [row_size, hh]; rfl) (row_one _) ?_; rw [World.setRow_alloc_new]))
      obtain ⟨G, hG⟩ : ∃ G, G = wr.heap.size := ⟨_, rfl⟩
      obtain ⟨ws, Hws⟩ : ∃ ws, Hid (ws = sch f 64) := ⟨_, rfl⟩
      have j0 : Blk2 w G h ws (rnds h ws 0) (wr.alloc (.cells (row h) 38)) := by
        rw [Hws.out, hG]
        exact ⟨⟨alloc_keeps inv.1, alloc_keeps inv.2.1, by simpa [zeros] using alloc_keeps inv.2.2.1, inv.2.2.2.alloc hsz _⟩, heap_alloc_new wr _, by omega⟩
      rw [← hG]
      have hwl : ws.length = 64 := by rw [Hws.out, sch_len]
      clear inv i3 hsz hG2 hG
      go_loopw [14] (fun i wx => ∃ k : Nat, k ≤ 64 ∧ i = .int .i64 k ∧ Blk2 w G h ws (rnds h ws k) wx) (fun i _ => 64 - (intOf i).toNat)
      case atStart => exact ⟨0, by omega, rfl, j0⟩
      case round =>
        clear j0
        obtain ⟨k, hk, rfl, inv⟩ := hrel
        by_cases hlt : k < 64
        · obtain ⟨a, b, c, d, e, f', g, h', hst⟩ := len8 _ (rnds_len h ws hh k)
          obtain ⟨kk, Hkk⟩ : ∃ x, Hid (x = keys.getD k 0) := ⟨_, rfl⟩
          obtain ⟨ww, Hww⟩ : ∃ x, Hid (x = ws.getD k 0) := ⟨_, rfl⟩
          have HR : Hid (rnds h ws (k + 1) = rnd [a, b, c, d, e, f', g, h'] (kk + ww)) := by rw [Hkk.out, Hww.out, ← hst]; rfl
          rw [hst] at inv
          clear hst
          obtain ⟨c0, c1, c2, c3, c4, c5, c6, c7⟩ := inv.cells
          have hfz := fun j => frozen_of_row _ G j _ _ inv.2.1
          have ck := (inv.1.2.2.2.cell (p := ⟨gk, k, none⟩) hgk).trans (HKC.out k hlt)
          have cw := row_cell k inv.1.2.2.1 (by omega)
          rw [← Hkk.out] at ck
          rw [← Hww.out] at cw
          have b0 : (k : Int) < 64 := by omega
          go_wp2
          go_quiet (first | (go_at_call 41; refine Calls.quiet_of (turned_z _ _ (by decide) (by decide) _)))
          go_wp2
          go_quiet (fail)
          go_wp2
          go_quiet (first | (go_at_call 41; refine quiet_plus (turned_z _ _ (by decide) (by decide) _)))
          go_wp2
          go_roundw
          case rel =>
            have R := fun M => (inv.drewN M).put _ a b c _ e f' g (new0_int a b c e f' g h' kk ww) (new4_int d e f' g h' kk ww)
            first
              | exact ⟨k + 1, by omega, by go_num, by rw [HR.out]; exact R _⟩
              | ((repeat apply Exists.intro); exact ⟨⟨k + 1, by omega, by go_num, by rw [HR.out]; exact R _⟩, rfl⟩)
          case measure => simp [intOf]; omega
        · obtain rfl : k = 64 := by omega
          obtain ⟨R, HRR⟩ : ∃ R, Hid (R = rnds h ws 64) := ⟨_, rfl⟩
          have hRl : R.length = 8 := by rw [HRR.out, rnds_len h ws hh]
          rw [← HRR.out] at inv
          have j3 : Blk3 w G (mix 0 h R) R wr := by rw [mix_zero _ _ hh]; exact ⟨inv.1.1, inv.1.2.1, inv.2.1, inv.2.2, inv.1.2.2.2⟩
          clear inv
          go_wp2
          go_loopw [21] (fun i wx => ∃ k : Nat, k ≤ 8 ∧ i = .int .i64 k ∧ Blk3 w G (mix k h R) R wx) (fun i _ => 8 - (intOf i).toNat)
          case atStart => exact ⟨0, by omega, rfl, j3⟩
          case round =>
            clear j3
            obtain ⟨k, hk, rfl, inv⟩ := hrel
            by_cases hlt : k < 8
            · have c1 := row_cell k inv.1 (by rw [mix_len]; exact hlt)
              have c2 := row_cell k inv.2.2.1 (by omega)
              rw [mix_get _ _ _ hlt] at c1
              obtain ⟨aa, haa⟩ : ∃ aa, aa = h.getD k 0 := ⟨_, rfl⟩
              obtain ⟨bb, hbb⟩ : ∃ bb, bb = R.getD k 0 := ⟨_, rfl⟩
              rw [← haa] at c1
              rw [← hbb] at c2
              have HM : Hid ((mix k h R).set k (aa + bb) = mix (k + 1) h R) := by rw [haa, hbb]; exact mix_step _ _ _ hlt
              have hf := frozen_of_row _ w.heap.size k _ _ inv.1
              have b0 : (k : Int) < 8 := by omega
              clear haa hbb
              go_wp2
              refine region_tail 8 (by kernel_rfl) (by kernel_rfl) ?_
              simp only [List.take_succ_cons, List.take_zero, List.drop_succ_cons, List.drop_zero]
              repeat still_step
              refine wpStill_nil ?_
              go_wp2
              go_roundw
              case rel =>
                first
                  | exact ⟨k + 1, by omega, by go_num, by rw [← HM.out]; exact inv.cell k (aa + bb) (by simp [BitVec.toNat_add])⟩
                  | ((repeat apply Exists.intro); exact ⟨⟨k + 1, by omega, by go_num, by rw [← HM.out]; exact inv.cell k (aa + bb) (by simp [BitVec.toNat_add])⟩, rfl⟩)
              case measure => simp [intOf]; omega
            · obtain rfl : k = 8 := by omega
              have HCo : Hid (compress h f = mix 8 h R) := by rw [HRR.out, Hws.out, mix_comm]; rfl
              go_wp2_with (first
                | (refine wpList_load_row rfl 38 (.tmp 3) rfl w.heap.size rfl 38 _ (0, 0) _ inv.1 Tryd.underlying38 rfl (by rw [row_size, mix_len]; exact size38) ?_)
                | (refine wpList_store_row rfl 38 (.tmp 6) _ rfl (w.heap.size + 1) _ rfl rfl 38 _ inv.2.1 (by rw [row_size, mix_len]; exact size38) (by rw [row_size, row_size, mix_len]; rfl) (row_one _) ?_))
              refine bodyPost_ret_by (v := .agg (row (compress h f))) (results_cell_row Tryd.results30 _ _ (w.heap.size + 1) 38 _ (0, 0) _ rfl (by rw [HCo.out]; exact setRow_heap _ _ _ _ _ _ inv.2.1) Tryd.underlying38 rfl (by rw [row_size, compress_len]; exact size38)) rfl ⟨rfl, ?_⟩
              exact below_row inv.2.2.2.2 (by omega) _
end Go.Proofs.YteiolcongejhgaaDoor
