/- The program's finder: its keys, its state. The program's finder, its steps. -/
import Derived.Test.YtgfbbcnnmoamnaaGreatDoorDE
import Derived.Maps.OwnOps
import Derived.Maps.Views
import Derived.DeepKeys4
namespace Go.Proofs.YtgfbbcnnmoamnaaGreatDoor
open Go.RowKit Go.Maps

theorem laid_all : laidOutB Tryz.prog = true := by kernel_rfl
theorem rowStart : (208 : TypeId) < Tryz.prog.types.size := of_decide_eq_true (by kernel_rfl)
theorem wideStart : (match Tryz.prog.underlying 208 with | some (.array _ _) | some (.struct _) => true | _ => false) = true := by rw [Tryz.underlying208]
set_option maxRecDepth 100000 in
theorem keyStart2 : Tryz.prog.keyTypeAt 2 208 = true := by kernel_rfl
set_option maxRecDepth 100000 in
theorem lawStart : Keyed Tryz.prog 208 := Keyed.of_law (deep_law_laid laid_all (m := 2) (by omega) rowStart keyStart2 wideStart)
theorem zeroInt (w : World) : (zeroValue 3).run Tryz.prog w = .ok (.int .i64 0) w := by kernel_rfl
/-- three bytes as a value -/
def keyV (t : UInt8 × UInt8 × UInt8) : Value := .agg #[.int .u8 (t.1.toNat : Int), .int .u8 (t.2.1.toNat : Int), .int .u8 (t.2.2.toNat : Int)]
def keyL (t : UInt8 × UInt8 × UInt8) : Lit := .string [t.1, t.2.1, t.2.2]
theorem keyL_ne {a b : UInt8 × UInt8 × UInt8} (h : a ≠ b) : keyL a ≠ keyL b := fun e => h (by
  obtain ⟨a1, a2, a3⟩ := a
  obtain ⟨b1, b2, b3⟩ := b
  simp [keyL] at e
  obtain ⟨rfl, rfl, rfl⟩ := e
  rfl)
set_option maxRecDepth 100000 in
theorem keyType_start : Tryz.prog.keyType 208 = true := by kernel_rfl
theorem cellsStart : Tryz.prog.cellsOf 208 = 3 := by kernel_rfl
theorem cellsU8 : Tryz.prog.cellsOf 5 = 1 := by kernel_rfl
theorem wf_u8 (a : UInt8) : (Lit.int .u8 (a.toNat : Int)).wf = true := by
  have : ∀ n, n < 256 → (Lit.int .u8 ((n : Nat) : Int)).wf = true := by decide +kernel
  exact this _ a.toNat_lt
theorem pos_succ {n k : Nat} (h : k < n) : ∃ m, n = m + 1 := ⟨n - 1, by omega⟩
theorem types_some : ∃ m, Tryz.prog.types.size = m + 1 := pos_succ rowStart
theorem sizeStart : (Tryz.prog.info? 208).map (·.size) = some 3 := by kernel_rfl
theorem keyL_of (t : UInt8 × UInt8 × UInt8) : keyOf Tryz.prog 208 (keyV t) = some (keyL t) := by
  obtain ⟨a, b, c⟩ := t
  have hk := keyType_start
  have hf : (keyV (a, b, c)).formed Tryz.prog 208 = true := by simp [keyV, Value.formed, Tryz.underlying208, cellsStart]
  obtain ⟨m, hm⟩ := types_some
  have u := Tryz.underlying208
  have u8 := Tryz.underlying5
  have h1 : ∀ x : UInt8, Tryz.prog.keyLits (m + 1) 5 [.int .u8 (x.toNat : Int)] = some [.int .u8 (x.toNat : Int)] := fun x => by
    rw [Program.keyLits.eq_def]; simp [u8, wf_u8]
  have h2 : Tryz.prog.keyLits (Tryz.prog.types.size + 1) 208 (keyV (a, b, c)).cells.toList = some [.int .u8 (a.toNat : Int), .int .u8 (b.toNat : Int), .int .u8 (c.toNat : Int)] := by
    rw [hm, Program.keyLits.eq_def]
    simp [u, keyV, Value.cells, cellsStart, cellsU8, List.range_succ, h1]
  have hb : ∀ x : UInt8, (Lit.int .u8 (x.toNat : Int)).keyBytes = [x] := fun x => by
    have := x.toNat_lt
    have e : (((x.toNat : Int) % 2 ^ IntKind.u8.bits).toNat) = x.toNat := by simp [IntKind.bits]; omega
    simp only [Lit.keyBytes, e]
    show bytesBE 1 x.toNat = [x]
    simp [bytesBE, bytesLE]
  unfold keyOf
  rw [u]
  simp only [hk, hf, h2, Bool.and_self, if_true, Option.map_some, keyBytes, List.flatMap_cons, List.flatMap_nil, hb]
  rfl
/-- a finder that has passed p places -/
structure Fnd (F M Bf : Nat) (s : ByteArray) (p : Nat) (w : World) : Prop where
  hs : s.size ≤ 20000
  hFM : F ≠ M
  hFB : F ≠ Bf
  hMB : M ≠ Bf
  blk : w.heap[F]? = some (.cells #[.string s, .map (some M), .slice (some ⟨Bf, 0, none⟩) s.size s.size] 206 (0, 0))
  bef : w.heap[Bf]? = some (.cells (rowi (befs s.data.toList p)) 3 (0, 0))
  mp : ∃ (n : Nat) (D : DataW Unit), n ≤ 20000 ∧ n ≤ p ∧ IsMap D ∧ w.ownsMap Tryz.prog 208 (plainElem Tryz.prog 3) M n D ∧ ∀ t, D.atKey (keyL t) (.lit (.int .i64 0)) = .lit (.int .i64 ((lastOcc s.data.toList p t : Nat) : Int))
section
variable {F M Bf : Nat} {s : ByteArray} {p : Nat} {w : World}
theorem Fnd.c0 (h : Fnd F M Bf s p w) : w.cell? ⟨F, 0, none⟩ = some (.string s) := cell_of_row w F 0 _ _ _ h.blk
theorem Fnd.c1 (h : Fnd F M Bf s p w) : w.cell? ⟨F, 1, none⟩ = some (.map (some M)) := cell_of_row w F 1 _ _ _ h.blk
theorem Fnd.c2 (h : Fnd F M Bf s p w) : w.cell? ⟨F, 2, none⟩ = some (.slice (some ⟨Bf, 0, none⟩) s.size s.size) := cell_of_row w F 2 _ _ _ h.blk
theorem Fnd.same {w' : World} (h : Fnd F M Bf s p w) (h1 : w'.heap[F]? = w.heap[F]?) (h2 : w'.heap[Bf]? = w.heap[Bf]?) (h3 : w'.heap[M]? = w.heap[M]?) : Fnd F M Bf s p w' := by
  obtain ⟨n, D, hn, hp, hi, ⟨es, clock, hb, hr⟩, hD⟩ := h.mp
  exact ⟨h.hs, h.hFM, h.hFB, h.hMB, h1.trans h.blk, h2.trans h.bef, n, D, hn, hp, hi, ⟨es, clock, h3.trans hb, hr⟩, hD⟩
theorem Fnd.ltF (h : Fnd F M Bf s p w) : F < w.heap.size := lt_of_block h.blk
theorem Fnd.ltB (h : Fnd F M Bf s p w) : Bf < w.heap.size := lt_of_block h.bef
theorem Fnd.ltM (h : Fnd F M Bf s p w) : M < w.heap.size := by obtain ⟨n, D, _, _, _, ho, _⟩ := h.mp; exact ho.lt
theorem Fnd.below {w' : World} (h : Fnd F M Bf s p w) (hb : Below w.heap.size w w') : Fnd F M Bf s p w' := h.same (hb.block F h.ltF) (hb.block Bf h.ltB) (hb.block M h.ltM)
theorem Fnd.drew (h : Fnd F M Bf s p w) : Fnd F M Bf s p w.drew := h.same rfl rfl rfl
theorem Fnd.drewN (h : Fnd F M Bf s p w) (m : Nat) : Fnd F M Bf s p (w.drewN m) := h.same rfl rfl rfl
theorem Fnd.alloc (h : Fnd F M Bf s p w) (b : Obj) : Fnd F M Bf s p (w.alloc b) := h.below ((Below.refl _ w).alloc (Nat.le_refl _) b)
end
end Go.Proofs.YtgfbbcnnmoamnaaGreatDoor

namespace Go.Proofs.YtgfbbcnnmoamnaaGreatDoor
open Go.RowKit Go.Maps

section
variable {F M Bf : Nat} {s : ByteArray} {p : Nat} {w : World}
set_option maxHeartbeats 1000000 in
set_option maxRecDepth 8000 in
theorem startAt_any (i : Nat) (hi : i + 3 ≤ s.size) (w : World) (h : Fnd F M Bf s p w) :
    Calls Tryz.prog 115 #[.pointer (some ⟨F, 0, none⟩), .int .i64 (i : Int)] w fun e w' => e = .returned (keyV (start3 s.data.toList i)) ∧ Below w.heap.size w w' := by
  have q0 := fun w => idx_str s (i : Int) i (by omega) (by omega) w
  have q1 := fun w => idx_str s ((i : Int) + 1) (i + 1) (by omega) (by omega) w
  have q2 := fun w => idx_str s ((i : Int) + 2) (i + 2) (by omega) (by omega) w
  have e0 := byte_at s i (by omega)
  have e1 := byte_at s (i + 1) (by omega)
  have e2 := byte_at s (i + 2) (by omega)
  have hst : start3 s.data.toList i = (s.data.toList.getD i 0, s.data.toList.getD (i + 1) 0, s.data.toList.getD (i + 2) 0) := rfl
  rw [hst]
  rw [e0] at q0
  rw [e1] at q1
  rw [e2] at q2
  obtain ⟨a, Ha⟩ := hid_intro (s.data.toList.getD i 0)
  obtain ⟨b, Hb⟩ := hid_intro (s.data.toList.getD (i + 1) 0)
  obtain ⟨c, Hc⟩ := hid_intro (s.data.toList.getD (i + 2) 0)
  rw [← Ha.out] at q0 ⊢
  rw [← Hb.out] at q1 ⊢
  rw [← Hc.out] at q2 ⊢
  have hs := h.hs
  obtain ⟨Z, HZ⟩ : ∃ Z, Hid (Z = w.alloc (.cells #[.int .u8 0, .int .u8 0, .int .u8 0] 208)) := ⟨_, rfl⟩
  have hc0 : Z.drew.cell? ⟨F, 0, none⟩ = some (.string s) := by rw [HZ.out]; exact (h.alloc _).drew.c0
  have hzr : Z.heap[w.heap.size]? = some (.cells #[.int .u8 0, .int .u8 0, .int .u8 0] 208 (0, 0)) := by rw [HZ.out]; exact heap_alloc_new w _
  have hzb : Below w.heap.size w Z := by rw [HZ.out]; exact (Below.refl _ w).alloc (Nat.le_refl _) _
  have hw1 : IntKind.i64.wrap ((i : Int) + 1) = (i : Int) + 1 := by rw [IntKind.wrap_i64]; omega
  have hw2 : IntKind.i64.wrap ((i : Int) + 2) = (i : Int) + 2 := by rw [IntKind.wrap_i64]; omega
  clear e0 e1 e2 hst h
  go_enter Tryz.func115, Tryz.ntmps115
  go_wp2
  rw [← HZ.out]
  clear HZ
  refine region_tail 21 (by kernel_rfl) (by kernel_rfl) ?_
  simp only [List.take_succ_cons, List.take_zero, List.drop_succ_cons, List.drop_zero]
  repeat still_step
  refine wpStill_nil ?_
  refine wpList_store_row rfl 208 (.tmp 4) (.tmp 25) rfl w.heap.size #[.int .u8 (a.toNat : Int), .int .u8 (b.toNat : Int), .int .u8 (c.toNat : Int)] rfl rfl 208 _ (show Z.drew.heap[w.heap.size]? = _ from hzr) sizeStart rfl ?_ ?_
  · simp [Value.oneCell']
  go_wp2
  refine bodyPost_ret_by (v := keyV (a, b, c)) (results_cell_row Tryz.results115 _ _ w.heap.size 208 _ (0, 0) _ rfl (setRow_heap _ _ _ _ _ _ (show Z.drew.heap[w.heap.size]? = _ from hzr)) Tryz.underlying208 rfl sizeStart) rfl ⟨rfl, below_row hzb.drew (Nat.le_refl _) _⟩
/-- how many bytes are the same from two places on -/
def AlkN (L : List UInt8) (f a n : Nat) : Prop := n ≤ 258 ∧ a + n ≤ L.length ∧ (∀ i, i < n → L.getD (f + i) 0 = L.getD (a + i) 0) ∧ (n = 258 ∨ a + n = L.length ∨ L.getD (f + n) 0 ≠ L.getD (a + n) 0)
set_option maxHeartbeats 1000000 in
set_option maxRecDepth 8000 in
theorem alike_any (f a : Nat) (hfa : f < a) (ha : a ≤ s.size) (w : World) (h : Fnd F M Bf s p w) :
    Calls Tryz.prog 116 #[.pointer (some ⟨F, 0, none⟩), .int .i64 (f : Int), .int .i64 (a : Int)] w fun e w' => ∃ n : Nat, e = .returned (.int .i64 (n : Int)) ∧ AlkN s.data.toList f a n ∧ ∃ m, w' = w.drewN m := by
  have hss : s.data.toList.length = s.size := by simp
  have hs := h.hs
  have HF := (show Hid (Fnd F M Bf s p w) from h)
  clear h
  go_enter Tryz.func116, Tryz.ntmps116
  go_wp2
  go_loopw [7] (fun vn wr => ∃ n m : Nat, vn = .int .i64 (n : Int) ∧ n ≤ 258 ∧ a + n ≤ s.size ∧ Hid (∀ i, i < n → s.data.toList.getD (f + i) 0 = s.data.toList.getD (a + i) 0) ∧ wr = w.drewN m) (fun vn _ => 258 - (intOf vn).toNat)
  case atStart => exact ⟨0, 0, rfl, by omega, by omega, fun i hi => by omega, (World.drewN_zero w).symm⟩
  case round =>
    obtain ⟨n, m, rfl, hn, han, HE, hw⟩ := hrel
    rw [hw]; clear hw
    have hc0 := HF.out.c0
    by_cases h258 : n < 258
    · have hb1 : decide ((n : Int) < 258) = true := decide_eq_true (by omega)
      by_cases hend : a + n < s.size
      · have hb2 : decide ((a : Int) + (n : Int) < (s.size : Int)) = true := decide_eq_true (by omega)
        have q1 := fun w => idx_str s ((f : Int) + (n : Int)) (f + n) (by omega) (by omega) w
        have q2 := fun w => idx_str s ((a : Int) + (n : Int)) (a + n) (by omega) (by omega) w
        have e1 := byte_at s (f + n) (by omega)
        have e2 := byte_at s (a + n) (by omega)
        rw [e1] at q1
        rw [e2] at q2
        obtain ⟨x, HX⟩ := hid_intro (s.data.toList.getD (f + n) 0)
        obtain ⟨y, HY⟩ := hid_intro (s.data.toList.getD (a + n) 0)
        rw [← HX.out] at q1
        rw [← HY.out] at q2
        have hw1 : IntKind.i64.wrap ((f : Int) + (n : Int)) = (f : Int) + (n : Int) := by rw [IntKind.wrap_i64]; omega
        have hw2 : IntKind.i64.wrap ((a : Int) + (n : Int)) = (a : Int) + (n : Int) := by rw [IntKind.wrap_i64]; omega
        clear e1 e2
        by_cases hxy : x = y
        · have hb3 : ((x.toNat : Int) == (y.toNat : Int)) = true := by rw [hxy]; simp
          have HXY := (show Hid _ from hxy)
          clear hxy
          go_wp2
          go_quiet (fail)
          go_wp2
          go_roundw
          case rel => exact ⟨n + 1, m + nq, by go_num, by omega, by omega, fun i hi => by
              by_cases hi2 : i < n
              · exact HE.out i hi2
              · obtain rfl : i = n := by omega
                rw [← HX.out, ← HY.out]; exact HXY.out, by first | rfl | rw [World.drewN_drewN]⟩
          case measure => simp [intOf]; omega
        · have hb3 : ((x.toNat : Int) == (y.toNat : Int)) = false := beq_eq_false_iff_ne.2 (fun e => hxy (UInt8.toNat_inj.1 (by omega)))
          have HXY := (show Hid _ from hxy)
          clear hxy
          go_wp2
          go_quiet (fail)
          go_wp2
          go_ret
          exact ⟨n, rfl, ⟨by omega, by omega, HE.out, .inr (.inr (by rw [← HX.out, ← HY.out]; exact HXY.out))⟩, m + nq, by rw [World.drewN_drewN]⟩
      · have hb2 : decide ((a : Int) + (n : Int) < (s.size : Int)) = false := decide_eq_false (by omega)
        have hw2 : IntKind.i64.wrap ((a : Int) + (n : Int)) = (a : Int) + (n : Int) := by rw [IntKind.wrap_i64]; omega
        go_wp2
        go_quiet (fail)
        go_wp2
        go_ret
        exact ⟨n, rfl, ⟨by omega, by omega, HE.out, .inr (.inl (by omega))⟩, m + nq, by rw [World.drewN_drewN]⟩
    · have hb1 : decide ((n : Int) < 258) = false := decide_eq_false (by omega)
      go_wp2
      go_quiet (fail)
      go_wp2
      go_ret
      exact ⟨n, rfl, ⟨by omega, by omega, HE.out, .inl (by omega)⟩, m + nq, by rw [World.drewN_drewN]⟩
end
end Go.Proofs.YtgfbbcnnmoamnaaGreatDoor
