/- Every list that came out still reads as it was written. -/
import Derived.Test.YtjngbcbkapjkhaaGreatDoorLkP
namespace Go.Proofs.YtjngbcbkapjkhaaGreatDoor.Lk
open Go.RowKit Go.Proofs.YtjngbcbkapjkhaaGreatDoor

theorem Kept.get {w : World} {B p n : Nat} {v : Value} (h : Kept w B p n v) : ∃ gb cap, ∃ U : Nat → Value, w.heap[p]? = some (.cells #[nilV, nilV, .slice (some ⟨gb, 0, none⟩) 4 cap, nilV, nilV] 39 (0, 0)) ∧ gb < w.heap.size ∧ ∀ i, i < 4 → w.cell? ⟨gb, i, none⟩ = some (U i) ∧ Own w B (U i) (n + i) := by
  obtain ⟨gb, cap, x, y, z, h1, _, h2, c0, c1, c2, c3, o0, o1, o2, o3⟩ := h.ex
  refine ⟨gb, cap, fun i => [v, x, y, z].getD i v, h1, h2, fun i hi => ?_⟩
  rcases (by omega : i = 0 ∨ i = 1 ∨ i = 2 ∨ i = 3) with rfl | rfl | rfl | rfl
  · exact ⟨c0, o0⟩
  · exact ⟨c1, o1⟩
  · exact ⟨c2, o2⟩
  · exact ⟨c3, o3⟩
theorem own_at {w : World} {B K cap k : Nat} {ao : Option Addr} (h : Own w B (.slice ao K cap) K) (hk : k < K) : ∃ g, ao = some ⟨g, 0, none⟩ ∧ w.cell? ⟨g, k * 3, none⟩ = some (.string ⟨#[35]⟩) ∧ w.cell? ⟨g, k * 3 + 1, none⟩ = some (.string ⟨#[]⟩) ∧ w.cell? ⟨g, k * 3 + 2, none⟩ = some (.string ⟨#[]⟩) := by
  rcases own_iff.1 h with ⟨hv, h0⟩ | ⟨g, cap', cur, hv, _, h2, _, _, _, h6⟩
  · omega
  · injection hv with hv _ _
    refine ⟨g, hv, ?_, ?_, ?_⟩
    · rw [cell_of_row _ _ _ _ _ _ h2, h6 _ (by omega)]; unfold pat; rw [if_pos (by omega)]
    · rw [cell_of_row _ _ _ _ _ _ h2, h6 _ (by omega)]; unfold pat; rw [if_neg (by omega)]
    · rw [cell_of_row _ _ _ _ _ _ h2, h6 _ (by omega)]; unfold pat; rw [if_neg (by omega)]
set_option maxRecDepth 8000 in
set_option maxHeartbeats 1000000 in
theorem still_any (B p n : Nat) (v : Value) (w : World) (hk : Kept w B p n v) (hn : n ≤ 10) :
    Calls Tryz.prog 6 #[.pointer (some ⟨p, 1, none⟩)] w fun r w' => r = .returned (.bool true) ∧ Below w.heap.size w w' := by
  obtain ⟨gb, capb, U, hp, hgb, hU⟩ := hk.get
  have hpl := lt_of_block hp
  have p1 : w.cell? ⟨p, 1, none⟩ = some (.slice none 0 0) := (cell_of_row w p 1 _ _ _ hp).trans rfl
  have p2 : w.cell? ⟨p, 2, none⟩ = some (.slice (some ⟨gb, 0, none⟩) 4 capb) := (cell_of_row w p 2 _ _ _ hp).trans rfl
  have p3 : w.cell? ⟨p, 3, none⟩ = some (.slice none 0 0) := (cell_of_row w p 3 _ _ _ hp).trans rfl
  have p4 : w.cell? ⟨p, 4, none⟩ = some (.slice none 0 0) := (cell_of_row w p 4 _ _ _ hp).trans rfl
  have HU := (show Hid _ from hU)
  clear hU hk hp
  go_enter Tryz.func6, Tryz.ntmps6
  go_wp2
  go_loopw [3] (fun vi wr => vi = .int .i64 0 ∧ wr = w) (fun _ _ => 0)
  case atStart => exact ⟨rfl, rfl⟩
  case round =>
    obtain ⟨rfl, hw⟩ := hrel
    rw [hw]; clear hw
    go_wp2
    go_loopw [6] (fun vi wr => ∃ i : Nat, i ≤ 4 ∧ vi = .int .i64 i ∧ Below w.heap.size w wr) (fun vi _ => 4 - (intOf vi).toNat)
    case atStart => exact ⟨0, by omega, rfl, Below.refl _ _⟩
    case round =>
      obtain ⟨i, hi, rfl, hb⟩ := hrel
      have hbs := hb.size
      have s1 := (hb.cell (p := ⟨p, 1, none⟩) hpl).trans p1
      have s2 := (hb.cell (p := ⟨p, 2, none⟩) hpl).trans p2
      have s3 := (hb.cell (p := ⟨p, 3, none⟩) hpl).trans p3
      have s4 := (hb.cell (p := ⟨p, 4, none⟩) hpl).trans p4
      by_cases hlt : i < 4
      · obtain ⟨cU, oU⟩ := HU.out i hlt
        have HA : Hid (Below w.heap.size w (wr.alloc (.cells #[.string ⟨#[35]⟩, .string ⟨#[]⟩, .string ⟨#[]⟩] 25 (0, 0)))) := hb.alloc hbs _
        have t2 := (HA.out.cell (p := ⟨p, 2, none⟩) hpl).trans p2
        have tg := (HA.out.cell (p := ⟨gb, i, none⟩) hgb).trans cU
        have m0 := cell_three_new wr (.string ⟨#[35]⟩) (.string ⟨#[]⟩) (.string ⟨#[]⟩) 25 0 _ rfl
        have m1 := cell_three_new wr (.string ⟨#[35]⟩) (.string ⟨#[]⟩) (.string ⟨#[]⟩) 25 1 _ rfl
        have m2 := cell_three_new wr (.string ⟨#[35]⟩) (.string ⟨#[]⟩) (.string ⟨#[]⟩) 25 2 _ rfl
        have hK : n + i ≤ 13 := by omega
        obtain ⟨K, HK⟩ := hid_intro (n + i)
        rw [← HK.out] at oU hK
        obtain ⟨ao, cap, hsh⟩ := own_shape (show World.ownsRow w B 25 3 (U i) K (marks K) from oU)
        rw [hsh] at oU tg
        have HO : Hid (Own (wr.alloc (.cells #[.string ⟨#[35]⟩, .string ⟨#[]⟩, .string ⟨#[]⟩] 25 (0, 0))) B (.slice ao K cap) K) := oU.below HA.out
        clear oU cU hsh
        have hq : (i : Int) / 4 = 0 := by omega
        have hi4 : i < 4 := hlt
        go_wp2_with (go_at_call 17; first | rw [hq] | skip; refine (mark_zero _).mono ?_; rintro e w9 ⟨rfl, hw9⟩; rw [hw9]; clear hw9 w9)
        go_loopw [8] (fun vk wq => ∃ k q : Nat, k ≤ K ∧ vk = .int .i64 k ∧ wq = (wr.alloc (.cells #[.string ⟨#[35]⟩, .string ⟨#[]⟩, .string ⟨#[]⟩] 25 (0, 0))).drewN q) (fun vk _ => K - (intOf vk).toNat)
        case atStart => exact ⟨0, 0, by omega, rfl, rfl⟩
        case round =>
          obtain ⟨k, q, hk, rfl, hw⟩ := hrel
          rw [hw]; clear hw
          by_cases hkl : k < K
          · obtain ⟨g, rfl, c1, c2, c3⟩ := own_at HO.out hkl
            go_wp2
            go_quiet (fail)
            go_wp2
            go_roundw
            case rel => exact ⟨k + 1, _, by omega, by go_num, by first | rfl | rw [World.drewN_drewN]⟩
            case measure => simp [intOf]; omega
          · obtain rfl : k = K := by omega
            go_wp2
            go_roundw
            case rel => exact ⟨i + 1, by omega, by go_num, below_drewN HA.out _⟩
            case measure => simp [intOf]; omega
      · obtain rfl : i = 4 := by omega
        clear HU
        go_wp2
        go_loopw [9] (fun vi wq => vi = .int .i64 0 ∧ Below w.heap.size w wq) (fun _ _ => 0)
        case atStart => exact ⟨rfl, hb⟩
        case round =>
          clear hb hbs s1 s2 s3 s4
          obtain ⟨rfl, hb⟩ := hrel
          have s3 := (hb.cell (p := ⟨p, 3, none⟩) hpl).trans p3
          have s4 := (hb.cell (p := ⟨p, 4, none⟩) hpl).trans p4
          go_wp2
          go_loopw [11] (fun vi wq => vi = .int .i64 0 ∧ Below w.heap.size w wq) (fun _ _ => 0)
          case atStart => exact ⟨rfl, hb⟩
          case round =>
            clear hb s3 s4
            obtain ⟨rfl, hb⟩ := hrel
            have s4 := (hb.cell (p := ⟨p, 4, none⟩) hpl).trans p4
            go_wp2
            go_ret
            exact ⟨rfl, hb⟩
end Go.Proofs.YtjngbcbkapjkhaaGreatDoor.Lk
