/- What the document's sum of one text is. -/
import Derived.Test.YteiolcongejhgaaDoorRefE
import Derived.Test.YteiolcongejhgaaDoorRefF
import Derived.Test.YteiolcongejhgaaDoorSumG
import Derived.Deep.RegionHeld2
import Derived.Deep.AppendLies
namespace Go.Proofs.YteiolcongejhgaaDoor
open Go.RowKit

def sliceLen : Value → Nat | .slice _ n _ => n | _ => 0
theorem hid_intro {α : Type} (a : α) : ∃ x, Hid (x = a) := ⟨a, (rfl : a = a)⟩
/-- the padded text, and the state beside it -/
def PInv (w : World) (g cap n : Nat) (P : List UInt8) (H : Nat) (st : List W32) (wr : World) : Prop :=
  BRow w.heap.size (.slice (some ⟨g, 0, none⟩) n cap) P wr ∧ wr.heap[H]? = some (.cells (row st) 38 (0, 0)) ∧ Below w.heap.size w wr ∧ w.heap.size ≤ H
theorem PInv.call {w : World} {g cap n : Nat} {P : List UInt8} {H : Nat} {st : List W32} {wr w2 : World} (i : PInv w g cap n P H st wr) (hb : Below wr.heap.size wr w2) : PInv w g cap n P H st w2 :=
  ⟨i.1.keep hb, (hb.block _ (lt_of_block i.2.1)).trans i.2.1, i.2.2.1.trans (hb.mono i.2.2.1.size), i.2.2.2⟩
theorem PInv.drew {w : World} {g cap n : Nat} {P : List UInt8} {H : Nat} {st : List W32} {wr : World} (i : PInv w g cap n P H st wr) : PInv w g cap n P H st wr.drew := ⟨i.1, i.2.1, i.2.2.1.drew, i.2.2.2⟩
theorem PInv.cell {w : World} {g cap n : Nat} {P : List UInt8} {H : Nat} {st : List W32} {wr : World} (i : PInv w g cap n P H st wr) (k : Nat) (x : W32) : PInv w g cap n P H (st.set k x) (wr.setCell ⟨H, k, none⟩ (.int .u32 (x.toNat : Int))) := by
  obtain ⟨⟨g', cap', cur, fz, h1, h2, h3, h4⟩, hH, hb, hl⟩ := i
  have hne : g' ≠ H := fun e => by rw [e, hH] at h3; simp at h3
  exact ⟨⟨g', cap', cur, fz, h1, h2, (heap_setCell_other wr _ _ _ (by simpa using hne)).trans h3, h4⟩, row_step x hH, hb.setCell hl _, hl⟩
theorem PInv.row {w : World} {g cap n : Nat} {P : List UInt8} {H : Nat} {st st' : List W32} {wr : World} (i : PInv w g cap n P H st wr) : PInv w g cap n P H st' (wr.setRow H (row st')) := by
  obtain ⟨⟨g', cap', cur, fz, h1, h2, h3, h4⟩, hH, hb, hl⟩ := i
  have hne : g' ≠ H := fun e => by rw [e, hH] at h3; simp at h3
  exact ⟨⟨g', cap', cur, fz, h1, h2, (setRow_other wr _ _ _ hne).trans h3, h4⟩, setRow_heap _ _ _ _ _ _ hH, below_row hb hl _, hl⟩
theorem first_set (k : Nat) (hk : k < 8) : (first8.take k ++ zeros (8 - k)).set k (first8.getD k 0) = first8.take (k + 1) ++ zeros (8 - (k + 1)) := by
  match k, hk with
  | 0, _ => rfl
  | 1, _ => rfl
  | 2, _ => rfl
  | 3, _ => rfl
  | 4, _ => rfl
  | 5, _ => rfl
  | 6, _ => rfl
  | 7, _ => rfl
theorem wl_drop (P : List UInt8) (k i : Nat) : wl (P.drop (64 * k)) i = blk P k i := by
  unfold wl blk
  simp only [List.getD_eq_getElem?_getD, List.getElem?_drop, Nat.add_assoc]
/-- a word's four bytes, as the document reckons them -/
def four (x : W32) : List Value := [.int .u8 (IntKind.u8.wrap (IntKind.u32.wrap ((x.toNat : Int) / 16777216))), .int .u8 (IntKind.u8.wrap ((IntKind.u32.wrap ((x.toNat : Int) / 65536)).tmod 256)), .int .u8 (IntKind.u8.wrap ((IntKind.u32.wrap ((x.toNat : Int) / 256)).tmod 256)), .int .u8 (IntKind.u8.wrap ((x.toNat : Int).tmod 256))]
theorem four_one (x : W32) : ∀ u ∈ four x, u.oneCell' = true := by simp [four, Value.oneCell']
theorem four_cells (w : World) (x : W32) : ∀ j u, (four x)[j]? = some u → (w.alloc (.cells #[.int .u8 (IntKind.u8.wrap (IntKind.u32.wrap ((x.toNat : Int) / 16777216))), .int .u8 (IntKind.u8.wrap ((IntKind.u32.wrap ((x.toNat : Int) / 65536)).tmod 256)), .int .u8 (IntKind.u8.wrap ((IntKind.u32.wrap ((x.toNat : Int) / 256)).tmod 256)), .int .u8 (IntKind.u8.wrap ((x.toNat : Int).tmod 256))] 5)).drew.cell? ((⟨w.heap.size, 0, none⟩ : Addr).add j) = some u := by
  intro j u hj
  have e : (⟨w.heap.size, 0, none⟩ : Addr).add j = ⟨w.heap.size, j, none⟩ := by unfold Addr.add; split <;> simp_all
  rw [e]
  refine (cell_of_row _ _ _ _ _ _ (heap_alloc_new w _)).trans ?_
  rw [← hj]
  simp [four]
theorem four_bytes (st : List W32) (i : Nat) : four (st.getD i 0) = Lib.byteCells [byteAt st (4 * i), byteAt st (4 * i + 1), byteAt st (4 * i + 2), byteAt st (4 * i + 3)] := by
  have hx := (st.getD i 0).isLt
  have h0 := byte_int st i 0 (by omega)
  have h1 := byte_int st i 1 (by omega)
  have h2 := byte_int st i 2 (by omega)
  have h3 := byte_int st i 3 (by omega)
  simp only [Nat.mul_zero, Nat.sub_zero, Nat.add_zero, Nat.mul_one] at h0 h1 h2 h3
  generalize st.getD i 0 = x at hx h0 h1 h2 h3 ⊢
  simp only [four, Lib.byteCells, List.map_cons, List.map_nil, IntKind.wrap_u8', IntKind.wrap_u32']
  rw [← h0, ← h1, ← h2, ← h3, Int.tmod_eq_emod_of_nonneg (by omega), Int.tmod_eq_emod_of_nonneg (by omega), Int.tmod_eq_emod_of_nonneg (by omega)]
  have p1 : (2 : Int) ^ 24 = 16777216 := rfl
  have p2 : (2 : Int) ^ (24 - 8) = 65536 := rfl
  have p3 : (2 : Int) ^ (24 - 8 * 2) = 256 := rfl
  have p4 : (2 : Int) ^ (24 - 8 * 3) = 1 := rfl
  rw [p1, p2, p3, p4]
  congr 1
  · congr 1; omega
  · congr 1
    · congr 1; omega
    · congr 1
      · congr 1; omega
      · congr 1
        congr 1; omega
theorem four_step (st : List W32) (i : Nat) (hi : i < 8) : Lib.byteCells ((bytesL st).take (4 * (i + 1))) = Lib.byteCells ((bytesL st).take (4 * i)) ++ four (st.getD i 0) := by
  rw [four_bytes, ← Lib.byteCells_append]
  congr 1
  have hl := bytesL_len st
  have g : ∀ p (hp : p < (bytesL st).length), (bytesL st)[p] = byteAt st p := fun p hp => by simp [bytesL]
  rw [show 4 * (i + 1) = 4 * i + 3 + 1 by omega, List.take_succ_eq_append_getElem (by omega), List.take_succ_eq_append_getElem (by omega), List.take_succ_eq_append_getElem (by omega), List.take_succ_eq_append_getElem (by omega), g, g, g, g]
  simp
theorem own_other {w w' : World} {base : Nat} {v : Value} {n : Nat} {xs : List Value} {H : Nat} {cs : Array Value} {fz : Nat × Nat} (hown : w.ownsRow base 5 1 v n xs) (hH : w.heap[H]? = some (.cells cs 38 fz)) (hg : w.grownBy w' v.ownBlock) : w'.heap[H]? = some (.cells cs 38 fz) := by
  have hne : v.ownBlock ≠ some H := by
    rcases hown.2 with ⟨rfl, _⟩ | ⟨g, cap, cur, rfl, _, hgg, _⟩
    · simp [Value.ownBlock]
    · simp only [Value.ownBlock, ne_eq, Option.some.injEq]
      intro e
      rw [e, hH] at hgg
      simp at hgg
  exact (hg.block H (lt_of_block hH) (fun e => hne e.symm)).trans hH
theorem string_back {w : World} {base : Nat} {v : Value} {l : List UInt8} (h : w.ownsRow base 5 1 v (4 * 8) (Lib.byteCells l)) (hl : l.length = 32) : ∃ g cap, v = .slice (some ⟨g, 0, none⟩) 32 cap ∧ (convert 28 9 (.slice (some ⟨g, 0, none⟩) 32 cap)).run Tryd.prog w = .ok (.string ⟨l.toArray⟩) w := by
  rcases h.2 with ⟨_, h0⟩ | ⟨g, cap, cur, rfl, _, hg, _, _, _, h4⟩
  · omega
  · refine ⟨g, cap, rfl, ?_⟩
    have := run_convert_bytes_back (P := Tryd.prog) w 28 9 5 ⟨g, 0, none⟩ cap l Tryd.underlying28 Tryd.underlying5 Tryd.underlying9 (fun j hj => by
      have e : (⟨g, 0, none⟩ : Addr).add j = ⟨g, j, none⟩ := by unfold Addr.add; split <;> simp_all
      have e2 : cur.toList[j]? = (cur.toList.take (4 * 8 * 1))[j]? := by rw [List.getElem?_take_of_lt (by omega)]
      rw [e, cell_of_row _ _ _ _ _ _ hg, ← Array.getElem?_toList, e2, h4]
      simp [Lib.byteCells, hj])
    rw [hl] at this
    exact this
theorem padded_eq (l : List UInt8) : padded l = l ++ [0x80] ++ List.replicate (padZ l.length) 0 ++ lenB l.length 8 := by
  have hd : (l.drop (64 * (l.length / 64))).length = l.length % 64 := by simp; omega
  have hz : padZ (l.length % 64) = padZ l.length := by unfold padZ; omega
  unfold padded padL
  rw [hd, hz]
  simp only [← List.append_assoc, List.take_append_drop]
theorem sha_ref (s : ByteArray) (m Z l : Nat) (hZ : Z = padZ s.size) (hl : l = s.size + 1 + Z + 8) (hm : m = l / 64) :
    bytesL (foldB first8 ((fun i => (fun j => s.data.toList ++ [0x80] ++ List.replicate j 0) Z ++ lenB s.size i) 8) m) = sha s.data.toList := by
  have hsl : s.data.toList.length = s.size := by simp
  unfold sha
  rw [padded_eq, hsl, ← hZ]
  have hb : blocks s.data.toList = m := by
    unfold blocks
    rw [hsl, hm, hl, hZ]
    unfold padZ
    omega
  rw [hb]
theorem own_of_bytes (w : World) (s : ByteArray) : ∃ cap R fz, (convert 9 28 (.string s)).run Tryd.prog w = .ok (.slice (some ⟨w.heap.size, 0, none⟩) s.size cap) (w.alloc (.cells R 5 fz)).drew ∧ BRow w.heap.size (.slice (some ⟨w.heap.size, 0, none⟩) s.size cap) s.data.toList (w.alloc (.cells R 5 fz)) := by
  refine ⟨grownCap w s.size 0 5, bytesRow s (grownCap w s.size 0 5), _, run_bytes_of_string w 9 28 5 s Tryd.underlying9 Tryd.underlying28 Tryd.underlying5, ?_⟩
  have hge := grownCap_ge w s.size 0 5
  have hsl : s.data.toList.length = s.size := by simp
  have hz : (bytesRow s (grownCap w s.size 0 5)).size = grownCap w s.size 0 5 := by
    have e : s.data.size = s.size := rfl
    simp [bytesRow, e]; omega
  refine ⟨w.heap.size, grownCap w s.size 0 5, _, _, by rw [hsl], Nat.le_refl _, heap_alloc_new w _, by rw [hsl]; exact hge, hz, ?_, .inr (by simp only; omega)⟩
  rw [hsl]
  have e : s.data.size = s.size := rfl
  simp [bytesRow, Lib.byteCells, e]

set_option maxRecDepth 100000 in
set_option maxHeartbeats 1000000 in
theorem summed_any (s : ByteArray) (hs : s.size ≤ 140737488351232) (gk capk gf capf : Nat) (w : World) (hgk : gk < w.heap.size) (hgf : gf < w.heap.size)
    (hkc : ∀ j, j < 64 → w.cell? ⟨gk, j, none⟩ = some (.int .u32 ((keys.getD j 0).toNat : Int))) (hfc : ∀ j, j < 8 → w.cell? ⟨gf, j, none⟩ = some (.int .u32 ((first8.getD j 0).toNat : Int))) :
    Calls Tryd.prog 23 #[.string s, .slice (some ⟨gk, 0, none⟩) 64 capk, .slice (some ⟨gf, 0, none⟩) 8 capf] w fun en w' => en = .returned (.string ⟨(sha s.data.toList).toArray⟩) ∧ Below w.heap.size w w' := by
  have HKC : Hid (∀ j, j < 64 → w.cell? ⟨gk, j, none⟩ = some (.int .u32 ((keys.getD j 0).toNat : Int))) := hkc
  have HFC : Hid (∀ j, j < 8 → w.cell? ⟨gf, j, none⟩ = some (.int .u32 ((first8.getD j 0).toNat : Int))) := hfc
  clear hkc hfc
  obtain ⟨Z, HZ⟩ : ∃ Z, Hid (Z = padZ s.size) := ⟨_, rfl⟩
  have hZ : Z < 64 := by rw [HZ.out]; unfold padZ; omega
  obtain ⟨L, HL⟩ := hid_intro (fun (j : Nat) => s.data.toList ++ [0x80] ++ List.replicate j 0)
  have hLl : ∀ j, (L j).length = s.size + 1 + j := fun j => by rw [HL.out]; simp; omega
  have HLn : Hid (∀ j, L j ++ [0] = L (j + 1)) := fun j => by rw [HL.out]; simp [List.replicate_succ']
  have hL0 : s.data.toList ++ [0x80] = L 0 := by rw [HL.out]; simp
  have HL0 : Hid (s.data.toList ++ [0x80] = L 0) := hL0
  have HLL : Hid (∀ j, (L j).length = s.size + 1 + j) := hLl
  have hsl : s.data.toList.length = s.size := by simp
  have HSL : Hid (s.data.toList.length = s.size) := hsl
  clear hLl hsl hL0
  obtain ⟨cap0, R0, fz0, hconv, hB0⟩ := own_of_bytes w s
  have hbl0 : Below w.heap.size w (w.alloc (.cells R0 5 fz0)) := (Below.refl _ _).alloc (Nat.le_refl _) _
  go_enter Tryd.func23, Tryd.ntmps23
  go_wp2_with (at_builtin; refine append_byte rfl (.tmp 19) (.tmp 20) rfl w.heap.size _ s.data.toList 0x80 rfl (hB0.alloc _) _ rfl (by simp) (by have := HSL.out; omega) (by simp; omega) ?_; intro v1 w1 hB1 hl1)
  have hlow1 : Below w.heap.size w w1 := ((hbl0.alloc (by simp) _).drew).trans hl1
  rw [HL0.out] at hB1
  obtain ⟨g1, cap1, hv1, hg1, hg1z, hc1, _⟩ := hB1.cells
  subst hv1
  clear hB0 hconv hl1 hbl0
  go_loopw [7] (fun p wr => ∃ g cap n j : Nat, j ≤ Z ∧ p = .slice (some ⟨g, 0, none⟩) n cap ∧ n = s.size + 1 + j ∧ BRow w.heap.size (.slice (some ⟨g, 0, none⟩) n cap) (L j) wr ∧ Below w.heap.size w wr) (fun p _ => Z + s.size + 1 - sliceLen p)
  case atStart => exact ⟨g1, cap1, (L 0).length, 0, by omega, rfl, by rw [HLL.out], hB1, hlow1⟩
  case round =>
    clear hB1 hlow1 hg1 hg1z hc1
    obtain ⟨g, cap, n, j, hj, rfl, hn, hB, hl⟩ := hrel
    have hsz := hl.size
    by_cases hlt : j < Z
    · have hne : ¬ n % 64 = 56 := by have := HZ.out; unfold padZ at this; omega
      have HNN : Hid (n = s.size + 1 + j) := hn
      have hn2 : n ≤ 140737488351232 + 65 := by omega
      clear hn
      have HLj : Hid ((L j).length = n) := by rw [HNN.out]; exact HLL.out j
      go_wp2_with (at_builtin; refine append_byte rfl (.tmp 26) (.tmp 27) rfl w.heap.size _ (L j) 0 rfl (hB.alloc _) _ rfl (by simp) (by have := HLj.out; omega) (by simp; omega) ?_; intro v2 w2 hB2 hl2)
      have hlow2 : Below w.heap.size w w2 := (hl.alloc hsz _).trans hl2
      rw [HLn.out] at hB2
      obtain ⟨g2, cap2, hv2, hg2, hg2z, hc2, _⟩ := hB2.cells
      rw [HLL.out] at hv2 
      go_roundw
      case rel => exact ⟨g2, cap2, n + 1, j + 1, by omega, by rw [hv2, HNN.out]; rfl, by rw [HNN.out]; rfl, by rw [HNN.out]; rw [hv2] at hB2; exact hB2, hlow2⟩
      case measure => rw [hv2, HNN.out]; simp [sliceLen]; omega
    · obtain rfl : j = Z := by omega
      have he : n % 64 = 56 := by have := HZ.out; unfold padZ at this; omega
      have HNN : Hid (n = s.size + 1 + j) := hn
      have hn2 : n ≤ 140737488351232 + 64 := by omega
      clear hn
      obtain ⟨M, HM⟩ := hid_intro (fun (i : Nat) => L j ++ lenB s.size i)
      have hM0 : L j = M 0 := by rw [HM.out]; simp [lenB]
      have HM0 : Hid (L j = M 0) := hM0
      clear hM0
      have HMn : Hid (∀ i, M i ++ [UInt8.ofNat (s.size * 8 / 2 ^ (56 - 8 * i))] = M (i + 1)) := fun i => by rw [HM.out]; simp [lenB]
      have HML : Hid (∀ i, (M i).length = n + i) := fun i => by rw [HM.out]; simp only [List.length_append, lenB_len]; rw [HLL.out, HNN.out]
      rw [HM0.out] at hB
      have HE : Hid (n % 64 = 56) := he
      have hb : ((n : Int) % 64 != 56) = false := by simp; omega
      clear he
      go_wp2
      go_loopw [7, 9] (fun p q wx => ∃ g cap l i : Nat, i ≤ 8 ∧ p = .slice (some ⟨g, 0, none⟩) l cap ∧ l = n + i ∧ q = .int .i64 i ∧ BRow w.heap.size (.slice (some ⟨g, 0, none⟩) l cap) (M i) wx ∧ Below w.heap.size w wx) (fun _ q _ => 8 - (intOf q).toNat)
      case atStart => exact ⟨g, cap, n, 0, by omega, rfl, rfl, rfl, hB, hl⟩
      case round =>
        clear hB hl hsz
        obtain ⟨g, cap, l, i, hi, rfl, hln, rfl, hB, hl⟩ := hrel
        have HLN : Hid (l = n + i) := hln
        have hl2 : l ≤ 140737488351232 + 72 := by omega
        clear hln
        have hsz := hl.size
        by_cases hlt : i < 8
        · go_wp2
          go_loop [10, 11] (fun x q => ∃ X k : Nat, i ≤ k ∧ k ≤ 7 ∧ q = .int .i64 k ∧ x = .int .i64 X ∧ X ≤ 8 * s.size ∧ Hid (X = s.size * 8 / 2 ^ (8 * (k - i)))) (fun _ q => 7 - (intOf q).toNat)
          case atStart => exact ⟨8 * s.size, i, by omega, by omega, rfl, by go_num, by omega, by show 8 * s.size = s.size * 8 / 2 ^ (8 * (i - i)); rw [Nat.sub_self]; simp; omega⟩
          case round =>
            obtain ⟨X, k, hk1, hk2, rfl, rfl, hX, HX⟩ := hrel
            by_cases hlk : k < 7
            · have HX2 : Hid (X / 256 = s.size * 8 / 2 ^ (8 * (k + 1 - i))) := by
                show X / 256 = s.size * 8 / 2 ^ (8 * (k + 1 - i))
                rw [HX.out, Nat.div_div_eq_div_mul, show 8 * (k + 1 - i) = 8 * (k - i) + 8 by omega, Nat.pow_add]
              clear HX
              go_wp2
              go_round
              case rel => exact ⟨X / 256, k + 1, by omega, by omega, by go_num, by go_num, by omega, HX2⟩
              case measure => simp [intOf]; omega
            · obtain rfl : k = 7 := by omega
              have HXE : Hid (UInt8.ofNat X = UInt8.ofNat (s.size * 8 / 2 ^ (56 - 8 * i))) := by
                show UInt8.ofNat X = UInt8.ofNat (s.size * 8 / 2 ^ (56 - 8 * i))
                rw [HX.out, show 8 * (7 - i) = 56 - 8 * i by omega]
              have HLi : Hid ((M i).length = l) := by rw [HLN.out]; exact HML.out i
              clear HX
              go_wp2_with (at_builtin; refine append_byte rfl (.tmp 44) (.tmp 48) rfl w.heap.size _ (M i) (UInt8.ofNat X) rfl (hB.alloc _) _ rfl (by simp [UInt8.toNat_ofNat']) (by have := HLi.out; omega) (by simp; omega) ?_; intro v2 w2 hB2 hl3)
              have hlow2 : Below w.heap.size w w2 := (hl.alloc hsz _).trans hl3
              rw [HXE.out, HMn.out] at hB2
              obtain ⟨g2, cap2, hv2, hg2, hg2z, hc2, _⟩ := hB2.cells
              rw [HML.out] at hv2
              go_roundw
              case rel => exact ⟨g2, cap2, n + (i + 1), i + 1, by omega, hv2, rfl, by go_num, by rw [hv2] at hB2; exact hB2, hlow2⟩
              case measure => simp [intOf]; omega
        · obtain rfl : i = 8 := by omega
          obtain ⟨P, HP⟩ := hid_intro (M 8)
          rw [← HP.out] at hB
          have hP : P.length = l := by rw [HP.out, HML.out, HLN.out]
          have HPL : Hid (P.length = l) := hP
          have H64 : Hid (l % 64 = 0) := by have := HLN.out; have := HE.out; show l % 64 = 0; omega
          obtain ⟨m, Hm⟩ := hid_intro (l / 64)
          clear hP
          go_wp2
          obtain ⟨H, hH⟩ : ∃ H, H = wr.heap.size := ⟨_, rfl⟩
          have j0 : PInv w g cap l P H (first8.take 0 ++ zeros 8) (wr.alloc (.cells (row (zeros 8)) 38 (0, 0))) := by
            rw [hH]; exact ⟨hB.alloc _, heap_alloc_new wr _, hl.alloc hsz _, hsz⟩
          rw [← hH]
          clear hB hl hH
          go_loopw [13] (fun q wx => ∃ k : Nat, k ≤ 8 ∧ q = .int .i64 k ∧ PInv w g cap l P H (first8.take k ++ zeros (8 - k)) wx) (fun q _ => 8 - (intOf q).toNat)
          case atStart => exact ⟨0, by omega, rfl, j0⟩
          case round =>
            clear j0 hsz
            obtain ⟨k, hk, rfl, inv⟩ := hrel
            have hsl8 : (first8.take k ++ zeros (8 - k)).length = 8 := by
              have : first8.length = 8 := rfl
              simp [zeros, this]; omega
            by_cases hlk : k < 8
            · have c0 := row_cell k inv.2.1 (by omega)
              have hf0 := frozen_of_row _ H k _ _ inv.2.1
              have cf := (inv.2.2.1.cell (p := ⟨gf, k, none⟩) hgf).trans (HFC.out k hlk)
              obtain ⟨x, HX⟩ := hid_intro (first8.getD k 0)
              rw [← HX.out] at cf
              have R := inv.cell k x
              rw [HX.out, first_set k hlk, ← HX.out] at R
              have RR : Hid (PInv w g cap l P H (first8.take (k + 1) ++ zeros (8 - (k + 1))) _) := R
              clear R
              go_wp2
              go_roundw
              case rel => exact ⟨k + 1, by omega, by go_num, RR.out⟩
              case measure => simp [intOf]; omega
            · obtain rfl : k = 8 := by omega
              have inv0 : PInv w g cap l P H (foldB first8 P 0) wr := by
                have e : first8.take 8 = first8 := rfl
                simpa [zeros, foldB, e] using inv
              clear inv hsl8
              go_wp2
              go_loopw [14] (fun q wx => ∃ k a : Nat, Hid (a = 64 * k) ∧ k ≤ m ∧ q = .int .i64 a ∧ PInv w g cap l P H (foldB first8 P k) wx) (fun q _ => l - (intOf q).toNat)
              case atStart => exact ⟨0, 0, rfl, by omega, rfl, inv0⟩
              case round =>
                clear inv0
                obtain ⟨k, at', HA, hk, rfl, inv⟩ := hrel
                have hl8 := foldB_len first8 rfl P k
                by_cases hlk : at' < l
                · have hkm : k < m := by have := HA.out; have := Hm.out; have := H64.out; omega
                  have ha64 : at' + 64 ≤ l := by have := HA.out; have := H64.out; omega
                  have e64 : IntKind.i64.wrap ((at' : Int) + 64) = (at' : Int) + 64 := by rw [IntKind.wrap_i64]; omega
                  obtain ⟨g', cap', hv', _, hgz, hcapl, hcell⟩ := inv.1.cells
                  simp only [Value.slice.injEq, Option.some.injEq, Addr.mk.injEq, and_true] at hv'
                  obtain ⟨rfl, hx, rfl⟩ := hv'
                  clear hx
                  rw [HPL.out] at hcapl hcell
                  have f1 : (0 : Int) ≤ (at' : Int) + 64 := by omega
                  have f2 : (at' : Int) + 64 ≤ (cap : Int) := by omega
                  have f3 : ((at' : Int) + 64).toNat = at' + 64 := by omega
                  have f4 : ¬ cap = at' := by omega
                  have HCL : Hid (∀ j, j < l → wr.cell? ⟨g, j, none⟩ = some (.int .u8 ((P.getD j 0).toNat : Int))) := hcell
                  clear hcell
                  have hgk2 : gk < wr.heap.size := Nat.lt_of_lt_of_le hgk inv.2.2.1.size
                  have HBC : Hid (∀ j, j < 64 → wr.drew.cell? ⟨g, at' + j, none⟩ = some (.int .u8 (((P.drop (64 * k)).getD j 0).toNat : Int))) := fun j hj => by
                    rw [show wr.drew.cell? ⟨g, at' + j, none⟩ = wr.cell? ⟨g, at' + j, none⟩ from rfl, HCL.out (at' + j) (by omega), HA.out]
                    simp [List.getElem?_drop]
                  have HKC2 : Hid (∀ j, j < 64 → wr.drew.cell? ⟨gk, j, none⟩ = some (.int .u32 ((keys.getD j 0).toNat : Int))) := fun j hj => (inv.2.2.1.cell (p := ⟨gk, j, none⟩) hgk).trans (HKC.out j hj)
                  have HFN : Hid (compress (foldB first8 P k) (wl (P.drop (64 * k))) = foldB first8 P (k + 1)) := compress_congr _ _ _ (fun i _ => wl_drop P k i)
                  go_wp2
                  refine region_tail 7 (by kernel_rfl) (by kernel_rfl) ?_
                  simp only [List.take_succ_cons, List.take_zero, List.drop_succ_cons, List.drop_zero]
                  refine wpStill_step (fun K hK => ?_)
                  refine still_load_row 38 (.tmp 12) rfl H rfl 38 _ (0, 0) _ inv.drew.2.1 Tryd.underlying38 rfl (by rw [row_size, hl8]; exact size38) (hK _ ?_)
                  clear hK K
                  repeat still_step
                  refine wpStill_nil ?_
                  go_wp2_with (first
                    | (go_at_call 30; refine (block_any (foldB first8 P k) hl8 (P.drop (64 * k)) g at' (cap - at') gk capk wr.drew hgz hgk2 HBC.out HKC2.out).mono ?_; rintro en w2 ⟨rfl, hb2⟩; have inv2 := inv.drew.call hb2; clear hb2)
                    | (refine wpList_store_row rfl 38 (.tmp 12) (.tmp 73) rfl H _ rfl rfl 38 _ inv2.2.1 (by rw [row_size, compress_len]; exact size38) (by rw [row_size, row_size, hl8, compress_len]) (row_one _) ?_))
                  go_roundw
                  case rel =>
                    first
                      | exact ⟨k + 1, at' + 64, by have := HA.out; show at' + 64 = 64 * (k + 1); omega, by omega, by go_num, by rw [← HFN.out]; exact inv2.row⟩
                      | ((repeat apply Exists.intro); exact ⟨⟨k + 1, at' + 64, by have := HA.out; show at' + 64 = 64 * (k + 1); omega, by omega, by go_num, by rw [← HFN.out]; exact inv2.row⟩, rfl⟩)
                  case measure => simp [intOf]; omega
                · obtain rfl : k = m := by have := HA.out; have := Hm.out; have := H64.out; omega
                  obtain ⟨st, HST⟩ := hid_intro (foldB first8 P k)
                  rw [← HST.out] at inv hl8
                  go_wp2
                  go_loopw [15, 16] (fun v q wx => ∃ i : Nat, i ≤ 8 ∧ q = .int .i64 i ∧ wx.ownsRow w.heap.size 5 1 v (4 * i) (Lib.byteCells ((bytesL st).take (4 * i))) ∧ wx.heap[H]? = some (.cells (row st) 38 (0, 0)) ∧ Below w.heap.size w wx) (fun _ q _ => 8 - (intOf q).toNat)
                  case atStart => exact ⟨0, by omega, rfl, World.ownsRow_nil _ _ _ _, inv.2.1, inv.2.2.1⟩
                  case round =>
                    clear inv
                    obtain ⟨i, hi, rfl, hown, hH, hl⟩ := hrel
                    rename_i u15
                    have hsz := hl.size
                    by_cases hli : i < 8
                    · obtain ⟨x, HX⟩ := hid_intro (st.getD i 0)
                      have c0 := row_cell i hH (by omega)
                      rw [← HX.out] at c0
                      have b0 : (i : Int) < 8 := by omega
                      have hxl := x.isLt
                      go_wp2
                      have hHlt : H < wr.heap.size := lt_of_block hH
                      obtain ⟨i0, hi0, hz0, hz1, hz2⟩ := info_parts info5
                      have HN : Hid (Lib.byteCells ((bytesL st).take (4 * (i + 1))) = Lib.byteCells ((bytesL st).take (4 * i)) ++ four x) := by rw [HX.out]; exact four_step st i hli
                      go_region_held2 (fun w' => w'.cell? ⟨H, i, none⟩ = some (.int .u32 (x.toNat : Int))) (go_keep) ((refine step_append_lies (P := Tryd.prog) _ ?_ (.tmp 78) (.tmp 101) 28 ?_ w.heap.size 5 i0 (.int .u8 0) 1 1 ?_ ?_ ?_ ?_ ?_ ?_ ?_ u15 (4 * i) (Lib.byteCells ((bytesL st).take (4 * i))) ?_ ?_ ⟨wr.heap.size, 0, none⟩ 4 4 (four x) ?_ ?_ ?_ ?_ ?_ ?_ ?_ ?_ (wr.heap.size + 1) ?_ ?_; rfl; rfl; exact Tryd.underlying28; exact hi0; exact hz0; exact hz1; exact hz2; rfl; decide; rfl; exact (hown.alloc _).drew; rfl; rfl; exact four_cells wr x; exact four_one x; decide; (unfold maxLen; omega); omega; (simp; omega); simp; intro g2 cap2 w3 hown3 hg3 _ _; have hH3 := own_other (hown.alloc _).drew (alloc_keeps hH) hg3; have cH3 : w3.cell? ⟨H, i, none⟩ = some (.int .u32 (x.toNat : Int)) := (cell_of_row _ _ _ _ _ _ hH3).trans ((cell_of_row _ _ _ _ _ _ hH).symm.trans c0)))
                      have hb3 : Below w.heap.size w w3 := grown_below (hl.alloc hsz _).drew (hown.alloc _).drew (Nat.le_refl _) (by simp; omega) hg3
                      clear hg3
                      go_wp2
                      go_roundw
                      case rel =>
                        first
                          | exact ⟨i + 1, by omega, by go_num, by rw [HN.out]; exact hown3, hH3, hb3⟩
                          | ((repeat apply Exists.intro); exact ⟨⟨i + 1, by omega, by go_num, by rw [HN.out]; exact hown3, hH3, hb3⟩, rfl⟩)
                      case measure => simp [intOf]; omega
                    · obtain rfl : i = 8 := by omega
                      have hfull : (bytesL st).take (4 * 8) = bytesL st := List.take_of_length_le (by have := bytesL_len st; omega)
                      rw [hfull] at hown
                      obtain ⟨g9, cap9, hv9, hcv⟩ := string_back hown (bytesL_len st)
                      subst hv9
                      have HSH : Hid (bytesL st = sha s.data.toList) := by
                        show bytesL st = sha s.data.toList
                        rw [HST.out, HP.out, HM.out, HL.out]
                        exact sha_ref s k j l HZ.out (by rw [HLN.out, HNN.out]) Hm.out
                      clear hown hfull
                      go_wp2
                      go_ret
                      exact ⟨ret_str HSH.out, hl⟩
end Go.Proofs.YteiolcongejhgaaDoor
