/- The program's finder: its keys, its state. -/
import Derived.Test.YtfohjjcihioinaaGreatDoorDE
import Derived.Maps.OwnOps
import Derived.Maps.Views
import Derived.DeepKeys4
namespace Go.Proofs.YtfohjjcihioinaaGreatDoor
open Go.RowKit Go.Maps

theorem laid_all : laidOutB Tryz.prog = true := by kernel_rfl
theorem rowStart : (250 : TypeId) < Tryz.prog.types.size := of_decide_eq_true (by kernel_rfl)
theorem wideStart : (match Tryz.prog.underlying 250 with | some (.array _ _) | some (.struct _) => true | _ => false) = true := by rw [Tryz.underlying250]
set_option maxRecDepth 100000 in
theorem keyStart2 : Tryz.prog.keyTypeAt 2 250 = true := by kernel_rfl
set_option maxRecDepth 100000 in
theorem lawStart : Keyed Tryz.prog 250 := Keyed.of_law (deep_law_laid laid_all (m := 2) (by omega) rowStart keyStart2 wideStart)
theorem zeroInt (w : World) : (zeroValue 3).run Tryz.prog w = .ok (.int .i64 0) w := by kernel_rfl
/-- three bytes as a value -/
def keyV (t : UInt8 × UInt8 × UInt8) : Value := .agg #[.int .u8 (t.1.toNat : Int), .int .u8 (t.2.1.toNat : Int), .int .u8 (t.2.2.toNat : Int)]
def keyL (t : UInt8 × UInt8 × UInt8) : Lit := .string [t.1, t.2.1, t.2.2]
theorem keyL_ne {a b : UInt8 × UInt8 × UInt8} (h : a ≠ b) : keyL a ≠ keyL b := fun e => h (by
  obtain ⟨a1, a2, a3⟩ := a
  obtain ⟨b1, b2, b3⟩ := b
  simp [keyL] at e
  obtain ⟨rfl, rfl, rfl⟩ := e
  rfl)
set_option maxRecDepth 100000 in
theorem keyType_start : Tryz.prog.keyType 250 = true := by kernel_rfl
theorem cellsStart : Tryz.prog.cellsOf 250 = 3 := by kernel_rfl
theorem cellsU8 : Tryz.prog.cellsOf 5 = 1 := by kernel_rfl
theorem wf_u8 (a : UInt8) : (Lit.int .u8 (a.toNat : Int)).wf = true := by
  have : ∀ n, n < 256 → (Lit.int .u8 ((n : Nat) : Int)).wf = true := by decide +kernel
  exact this _ a.toNat_lt
theorem pos_succ {n k : Nat} (h : k < n) : ∃ m, n = m + 1 := ⟨n - 1, by omega⟩
theorem types_some : ∃ m, Tryz.prog.types.size = m + 1 := pos_succ rowStart
theorem sizeStart : (Tryz.prog.info? 250).map (·.size) = some 3 := by kernel_rfl
theorem keyL_of (t : UInt8 × UInt8 × UInt8) : keyOf Tryz.prog 250 (keyV t) = some (keyL t) := by
  obtain ⟨a, b, c⟩ := t
  have hk := keyType_start
  have hf : (keyV (a, b, c)).formed Tryz.prog 250 = true := by simp [keyV, Value.formed, Tryz.underlying250, cellsStart]
  obtain ⟨m, hm⟩ := types_some
  have u := Tryz.underlying250
  have u8 := Tryz.underlying5
  have h1 : ∀ x : UInt8, Tryz.prog.keyLits (m + 1) 5 [.int .u8 (x.toNat : Int)] = some [.int .u8 (x.toNat : Int)] := fun x => by
    rw [Program.keyLits.eq_def]; simp [u8, wf_u8]
  have h2 : Tryz.prog.keyLits (Tryz.prog.types.size + 1) 250 (keyV (a, b, c)).cells.toList = some [.int .u8 (a.toNat : Int), .int .u8 (b.toNat : Int), .int .u8 (c.toNat : Int)] := by
    rw [hm, Program.keyLits.eq_def]
    simp [u, keyV, Value.cells, cellsStart, cellsU8, List.range_succ, h1]
  have hb : ∀ x : UInt8, (Lit.int .u8 (x.toNat : Int)).keyBytes = [x] := fun x => by
    have := x.toNat_lt
    have e : (((x.toNat : Int) % 2 ^ IntKind.u8.bits).toNat) = x.toNat := by simp [IntKind.bits]; omega
    simp only [Lit.keyBytes, e]
    show bytesBE 1 x.toNat = [x]
    simp [bytesBE, bytesLE]
  unfold keyOf
  rw [u]
  simp only [hk, hf, h2, Bool.and_self, if_true, Option.map_some, keyBytes, List.flatMap_cons, List.flatMap_nil, hb]
  rfl
/-- a finder that has passed p places -/
structure Fnd (F M Bf : Nat) (s : ByteArray) (p : Nat) (w : World) : Prop where
  hs : s.size ≤ 20000
  hFM : F ≠ M
  hFB : F ≠ Bf
  hMB : M ≠ Bf
  blk : w.heap[F]? = some (.cells #[.string s, .map (some M), .slice (some ⟨Bf, 0, none⟩) s.size s.size] 248 (0, 0))
  bef : w.heap[Bf]? = some (.cells (rowi (befs s.data.toList p)) 3 (0, 0))
  mp : ∃ (n : Nat) (D : DataW Unit), n ≤ 20000 ∧ n ≤ p ∧ IsMap D ∧ w.ownsMap Tryz.prog 250 (plainElem Tryz.prog 3) M n D ∧ ∀ t, D.atKey (keyL t) (.lit (.int .i64 0)) = .lit (.int .i64 ((lastOcc s.data.toList p t : Nat) : Int))
section
variable {F M Bf : Nat} {s : ByteArray} {p : Nat} {w : World}
theorem Fnd.c0 (h : Fnd F M Bf s p w) : w.cell? ⟨F, 0, none⟩ = some (.string s) := cell_of_row w F 0 _ _ _ h.blk
theorem Fnd.c1 (h : Fnd F M Bf s p w) : w.cell? ⟨F, 1, none⟩ = some (.map (some M)) := cell_of_row w F 1 _ _ _ h.blk
theorem Fnd.c2 (h : Fnd F M Bf s p w) : w.cell? ⟨F, 2, none⟩ = some (.slice (some ⟨Bf, 0, none⟩) s.size s.size) := cell_of_row w F 2 _ _ _ h.blk
theorem Fnd.same {w' : World} (h : Fnd F M Bf s p w) (h1 : w'.heap[F]? = w.heap[F]?) (h2 : w'.heap[Bf]? = w.heap[Bf]?) (h3 : w'.heap[M]? = w.heap[M]?) : Fnd F M Bf s p w' := by
  obtain ⟨n, D, hn, hp, hi, ⟨es, clock, hb, hr⟩, hD⟩ := h.mp
  exact ⟨h.hs, h.hFM, h.hFB, h.hMB, h1.trans h.blk, h2.trans h.bef, n, D, hn, hp, hi, ⟨es, clock, h3.trans hb, hr⟩, hD⟩
theorem Fnd.ltF (h : Fnd F M Bf s p w) : F < w.heap.size := lt_of_block h.blk
theorem Fnd.ltB (h : Fnd F M Bf s p w) : Bf < w.heap.size := lt_of_block h.bef
theorem Fnd.ltM (h : Fnd F M Bf s p w) : M < w.heap.size := by obtain ⟨n, D, _, _, _, ho, _⟩ := h.mp; exact ho.lt
theorem Fnd.below {w' : World} (h : Fnd F M Bf s p w) (hb : Below w.heap.size w w') : Fnd F M Bf s p w' := h.same (hb.block F h.ltF) (hb.block Bf h.ltB) (hb.block M h.ltM)
theorem Fnd.drew (h : Fnd F M Bf s p w) : Fnd F M Bf s p w.drew := h.same rfl rfl rfl
theorem Fnd.drewN (h : Fnd F M Bf s p w) (m : Nat) : Fnd F M Bf s p (w.drewN m) := h.same rfl rfl rfl
theorem Fnd.alloc (h : Fnd F M Bf s p w) (b : Obj) : Fnd F M Bf s p (w.alloc b) := h.below ((Below.refl _ w).alloc (Nat.le_refl _) b)
end
end Go.Proofs.YtfohjjcihioinaaGreatDoor
