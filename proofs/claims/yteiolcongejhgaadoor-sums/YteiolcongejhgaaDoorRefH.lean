/- What the document's digits of a text are. -/
import Derived.Test.YteiolcongejhgaaDoorRefG
namespace Go.Proofs.YteiolcongejhgaaDoor
open Go.RowKit

theorem digits_run (n : Nat) (hn : n < 16) (w : World) :
    (Instr.index 9 (.string ⟨#[48, 49, 50, 51, 52, 53, 54, 55, 56, 57, 97, 98, 99, 100, 101, 102]⟩) (.int .u8 (n : Int))).run Tryd.prog w = .ok (.int .u8 ((digit n).toNat : Int)) w := by
  rw [run_index_string w 9 _ .u8 n Tryd.underlying9, dif_pos ⟨by omega, by show (n : Int) < 16; omega⟩]
  have h := digit_at n (by show n < 16; omega)
  simp only [Int.toNat_natCast]
  rw [h]

theorem two_cells (w : World) (a b : UInt8) : ∀ j u, ([.int .u8 (a.toNat : Int), .int .u8 (b.toNat : Int)] : List Value)[j]? = some u → (w.alloc (.cells #[.int .u8 (a.toNat : Int), .int .u8 (b.toNat : Int)] 5)).drew.cell? ((⟨w.heap.size, 0, none⟩ : Addr).add j) = some u := by
  intro j u hj
  have e : (⟨w.heap.size, 0, none⟩ : Addr).add j = ⟨w.heap.size, j, none⟩ := by unfold Addr.add; split <;> simp_all
  rw [e]
  refine (cell_of_row _ _ _ _ _ _ (heap_alloc_new w _)).trans ?_
  rw [← hj]
  simp
theorem string_back64 {w : World} {base : Nat} {v : Value} {l : List UInt8} (h : w.ownsRow base 5 1 v (2 * 32) (Lib.byteCells l)) (hl : l.length = 2 * 32) : ∃ g cap, v = .slice (some ⟨g, 0, none⟩) 64 cap ∧ (convert 28 9 (.slice (some ⟨g, 0, none⟩) 64 cap)).run Tryd.prog w = .ok (.string ⟨l.toArray⟩) w := by
  rcases h.2 with ⟨_, h0⟩ | ⟨g, cap, cur, rfl, _, hg, _, _, _, h4⟩
  · omega
  · refine ⟨g, cap, rfl, ?_⟩
    have := run_convert_bytes_back (P := Tryd.prog) w 28 9 5 ⟨g, 0, none⟩ cap l Tryd.underlying28 Tryd.underlying5 Tryd.underlying9 (fun j hj => by
      have e : (⟨g, 0, none⟩ : Addr).add j = ⟨g, j, none⟩ := by unfold Addr.add; split <;> simp_all
      have e2 : cur.toList[j]? = (cur.toList.take (2 * 32 * 1))[j]? := by rw [List.getElem?_take_of_lt (by omega)]
      rw [e, cell_of_row _ _ _ _ _ _ hg, ← Array.getElem?_toList, e2, h4]
      simp [Lib.byteCells, hj])
    rw [hl] at this
    exact this

set_option maxHeartbeats 1000000 in
theorem hex_any (l : List UInt8) (hl32 : l.length = 32) (w : World) :
    Calls Tryd.prog 16 #[.string ⟨l.toArray⟩] w fun en w' => en = .returned (.string ⟨(hexL l).toArray⟩) ∧ Below w.heap.size w w' := by
  obtain ⟨s, Hs⟩ := hid_intro (⟨l.toArray⟩ : ByteArray)
  rw [← Hs.out]
  have hsz32 : s.size = 32 := by rw [Hs.out, size_of_list, hl32]
  have Hget : Hid (∀ k (hk : k < s.size), s[k] = l.getD k 0) := fun k hk => by
    have h1 := byte_at s k hk
    rw [h1]
    have e : s.data.toList = l := by rw [Hs.out]
    rw [e]
  go_enter Tryd.func16, Tryd.ntmps16
  go_wp2
  go_loopw [4, 5] (fun v q wr => ∃ k : Nat, k ≤ 32 ∧ q = .int .i64 k ∧ wr.ownsRow w.heap.size 5 1 v (2 * k) (Lib.byteCells (hexL (l.take k))) ∧ Below w.heap.size w wr) (fun _ q _ => 32 - (intOf q).toNat)
  case atStart => exact ⟨0, by omega, rfl, World.ownsRow_nil _ _ _ _, Below.refl _ _⟩
  case round =>
    obtain ⟨k, hk, rfl, hown, hl⟩ := hrel
    have hsz := hl.size
    by_cases hlt : k < 32
    · obtain ⟨x, HX⟩ := hid_intro (l.getD k 0)
      have q0 : ∀ w, (Instr.index 9 (.string s) (.int .i64 (k : Int))).run Tryd.prog w = .ok (.int .u8 (x.toNat : Int)) w := fun w => by
        rw [idx_str s (k : Int) k rfl (by omega) w, HX.out, Hget.out k (by omega)]
      have hx := x.toNat_lt
      have HN : Hid (hexL (l.take (k + 1)) = hexL (l.take k) ++ [digit (x.toNat / 16)] ++ [digit (x.toNat % 16)]) := by rw [HX.out]; exact hex_step l k (by omega)
      have e1 : IntKind.u8.wrap ((x.toNat : Int) / 16) = (x.toNat : Int) / 16 := by rw [IntKind.wrap_u8']; omega
      have e2 : (x.toNat : Int).tmod 16 = (x.toNat : Int) % 16 := Int.tmod_eq_emod_of_nonneg (by omega)
      have d1 : ∀ w, (Instr.index 9 (.string ⟨#[48, 49, 50, 51, 52, 53, 54, 55, 56, 57, 97, 98, 99, 100, 101, 102]⟩) (.int .u8 ((x.toNat : Int) / 16))).run Tryd.prog w = .ok (.int .u8 ((digit (x.toNat / 16)).toNat : Int)) w := fun w => by
        have h := digits_run (x.toNat / 16) (by omega) w
        simpa using h
      have d2 : ∀ w, (Instr.index 9 (.string ⟨#[48, 49, 50, 51, 52, 53, 54, 55, 56, 57, 97, 98, 99, 100, 101, 102]⟩) (.int .u8 ((x.toNat : Int) % 16))).run Tryd.prog w = .ok (.int .u8 ((digit (x.toNat % 16)).toNat : Int)) w := fun w => by
        have h := digits_run (x.toNat % 16) (by omega) w
        simpa using h
      obtain ⟨y1, HY1⟩ := hid_intro (digit (x.toNat / 16))
      obtain ⟨y2, HY2⟩ := hid_intro (digit (x.toNat % 16))
      rw [← HY1.out] at d1
      rw [← HY2.out] at d2
      obtain ⟨i0, hi0, hz0, hz1, hz2⟩ := info_parts info5
      go_wp2
      go_region_held2 (fun _ => True) (trivial) ((refine step_append_lies (P := Tryd.prog) _ ?_ (.tmp 12) (.tmp 25) 28 ?_ w.heap.size 5 i0 (.int .u8 0) 1 1 ?_ ?_ ?_ ?_ ?_ ?_ ?_ u4 (2 * k) (Lib.byteCells (hexL (l.take k))) ?_ ?_ ⟨wr.heap.size, 0, none⟩ 2 2 [.int .u8 (y1.toNat : Int), .int .u8 (y2.toNat : Int)] ?_ ?_ ?_ ?_ ?_ ?_ ?_ ?_ (wr.heap.size + 1) ?_ ?_; rfl; rfl; exact Tryd.underlying28; exact hi0; exact hz0; exact hz1; exact hz2; rfl; decide; rfl; exact (hown.alloc _).drew; rfl; rfl; exact two_cells wr y1 y2; (simp [Value.oneCell']); decide; (unfold maxLen; omega); omega; (simp; omega); simp; intro g2 cap2 w3 hown3 hg3 _ _))
      all_goals
        have hb3 : Below w.heap.size w w3 := grown_below (hl.alloc hsz _).drew (hown.alloc _).drew (Nat.le_refl _) (by simp; omega) hg3
        have ho : w3.ownsRow w.heap.size 5 1 (.slice (some ⟨g2, 0, none⟩) (2 * k + 2) cap2) (2 * k + 2) (Lib.byteCells (hexL (l.take (k + 1)))) := by
          rw [HN.out, ← HY1.out, ← HY2.out, Lib.byteCells_append, Lib.byteCells_append]
          simpa [Lib.byteCells] using hown3
        have HO : Hid (w3.ownsRow w.heap.size 5 1 (.slice (some ⟨g2, 0, none⟩) (2 * k + 2) cap2) (2 * (k + 1)) (Lib.byteCells (hexL (l.take (k + 1))))) := ho
        clear ho
        clear hg3 hown3 hown
        go_wp2
        go_roundw
        case rel =>
          first
            | exact ⟨k + 1, by omega, by go_num, HO.out, hb3⟩
            | ((repeat apply Exists.intro); exact ⟨⟨k + 1, by omega, by go_num, HO.out, hb3⟩, rfl⟩)
        case measure => simp [intOf]; omega
    · obtain rfl : k = 32 := by omega
      rw [List.take_of_length_le (by omega)] at hown
      obtain ⟨g9, cap9, hv9, hcv⟩ := string_back64 hown (by rw [hexL_len, hl32])
      subst hv9
      clear hown
      go_wp2
      go_ret
      exact ⟨rfl, hl⟩
end Go.Proofs.YteiolcongejhgaaDoor
