/- The document's lines and parts of a text. -/
import Derived.Test.YtnmgebpccbachaaGreatDoorLkC
import Derived.Deep.AppendLies
namespace Go.Proofs.YtnmgebpccbachaaGreatDoor.Lk
open Go.RowKit Go.Proofs.YtnmgebpccbachaaGreatDoor

theorem getD_mem' {l : List UInt8} {i : Nat} (h : i < l.length) : l.getD i 0 ∈ l := by
  rw [List.getD_eq_getElem?_getD, List.getElem?_eq_getElem h]; exact List.getElem_mem _
theorem split_at {l : List UInt8} {i : Nat} (h : i < l.length) : l = l.take i ++ l.getD i 0 :: l.drop (i + 1) := by
  have e := List.take_append_drop i l
  have e2 : l.drop i = l.getD i 0 :: l.drop (i + 1) := by
    rw [List.drop_eq_getElem_cons h, List.getD_eq_getElem?_getD, List.getElem?_eq_getElem h]; rfl
  rw [e2] at e; exact e.symm
theorem not_in_take {l : List UInt8} {c : UInt8} {i : Nat} (h : ∀ j, j < i → l.getD j 0 ≠ c) : c ∉ l.take i := by
  intro hm
  obtain ⟨j, hj, e⟩ := List.getElem_of_mem hm
  have hj2 : j < i ∧ j < l.length := by simp at hj; omega
  refine h j hj2.1 ?_
  rw [List.getD_eq_getElem?_getD, List.getElem?_eq_getElem hj2.2, ← e]; simp
theorem not_in {l : List UInt8} {c : UInt8} (h : ∀ j, j < l.length → l.getD j 0 ≠ c) : c ∉ l := by
  have := not_in_take (l := l) (c := c) (i := l.length) h
  rwa [List.take_length] at this
theorem cut_at {l : List UInt8} {c : UInt8} {i : Nat} (hi : i < l.length) (h : ∀ j, j < i → l.getD j 0 ≠ c) (hc : l.getD i 0 = c) : cutB c l = (l.take i, l.drop (i + 1), true) := by
  have e := split_at hi
  rw [hc] at e
  have := cut_of_hit (c := c) (a := l.take i) (b := l.drop (i + 1)) (not_in_take h)
  rw [← e] at this; exact this
theorem byte_eq {x c : UInt8} : ((x.toNat : Int) == (c.toNat : Int)) = decide (x = c) := by
  by_cases h : x = c
  · subst h; simp
  · rw [decide_eq_false h]; exact beq_eq_false_iff_ne.2 (fun e => h (UInt8.toNat_inj.1 (by omega)))
set_option maxRecDepth 8000 in
theorem rline_any (s : ByteArray) (hs : s.size ≤ 9223372036854775807) (w : World) : Calls Tryz.prog 143 #[.string s] w fun r w' => r = .returned (.tuple #[.string ⟨(cutB 10 s.data.toList).1.toArray⟩, .string ⟨(cutB 10 s.data.toList).2.1.toArray⟩, .bool (cutB 10 s.data.toList).2.2]) ∧ ∃ n, w' = w.drewN n := by
  have hl := len_data s
  have hx : ∀ (i : Nat) (h : i < s.size) (w : World), (Instr.index 9 (.string s) (.int .i64 (i : Int))).run Tryz.prog w = .ok (.int .u8 ((s.data.toList.getD i 0).toNat : Int)) w := fun i h w => by
    rw [idx_str s i i rfl h w, byte_at s i h]
  have hme : s = ⟨s.data.toList.toArray⟩ := by cases s; simp
  have hex := extract_list s
  obtain ⟨l, HL⟩ := hid_intro s.data.toList
  rw [← HL.out] at hl hx hex ⊢
  rw [← HL.out] at hme
  have HX := (show Hid _ from hx)
  have HLL := (show Hid _ from hl)
  have HME := (show Hid _ from hme)
  have HEX := (show Hid _ from hex)
  clear hx hl hme hex
  go_enter Tryz.func143, Tryz.ntmps143
  go_wp2
  go_loopw [5] (fun vi wr => ∃ i : Nat, i ≤ s.size ∧ vi = .int .i64 i ∧ wr = w ∧ Hid (∀ j, j < i → l.getD j 0 ≠ 10)) (fun vi _ => s.size - (intOf vi).toNat)
  case atStart => exact ⟨0, by omega, rfl, rfl, fun j hj => by omega⟩
  case round =>
    obtain ⟨i, hi, rfl, hw, HA⟩ := hrel
    rw [hw]; clear hw
    by_cases hlt : i < s.size
    · have hix := fun w => HX.out i hlt w
      have hb := byte_eq (x := l.getD i 0) (c := 10)
      by_cases hc : l.getD i 0 = 10
      · have HP := (show Hid _ from cut_at (by have := HLL.out; omega) HA.out hc)
        rw [decide_eq_true hc] at hb
        have s1 := fun w => sl_to s i i rfl (by omega) w
        have s2 := fun w => sl_from s (i + 1) (i + 1) (by omega) (by omega) w
        have hb2 : (((10 : UInt8).toNat : Int)) = 10 := rfl
        rw [hb2] at hb
        have hcn : (l.getD i 0).toNat = 10 := by rw [hc]; rfl
        rw [hcn] at hix
        clear hb hb2 hcn hc HA
        go_wp2
        go_quiet (fail)
        go_wp2
        go_ret3
        refine ⟨?_, _, rfl⟩
        rw [HP.out, HEX.out, HEX.out, ← HLL.out, List.take_length]
        rfl
      · have HA2 : Hid (∀ j, j < i + 1 → l.getD j 0 ≠ 10) := fun j hj => by
          by_cases e : j = i
          · rw [e]; exact hc
          · exact HA.out j (by omega)
        rw [decide_eq_false hc] at hb
        have hb2 : (((10 : UInt8).toNat : Int)) = 10 := rfl
        rw [hb2] at hb
        obtain ⟨k, HK⟩ := hid_intro (l.getD i 0).toNat
        rw [← HK.out] at hix hb
        clear hb2 hc HA
        go_wp2
        go_roundw
        case rel => exact ⟨i + 1, by omega, by go_num, by first | rfl | trivial, HA2⟩
        case measure => simp [intOf]; omega
    · obtain rfl : i = s.size := by omega
      have HP := (show Hid _ from cut_of_miss (not_in (fun j hj => HA.out j (by have := HLL.out; omega))))
      clear HA HX
      go_wp2
      go_ret3
      refine ⟨?_, 0, rfl⟩
      rw [HP.out, ← HME.out]
      rfl

theorem split_step {l : List UInt8} {c : UInt8} {f i : Nat} (hf : f ≤ i) (hi : i < l.length) (h : ∀ j, f ≤ j → j < i → l.getD j 0 ≠ c) (hc : l.getD i 0 = c) : splitB c (l.drop f) = (l.take i).drop f :: splitB c (l.drop (i + 1)) := by
  have hd : ∀ j, (l.drop f).getD j 0 = l.getD (f + j) 0 := fun j => by simp [List.getD_eq_getElem?_getD]
  have e := split_at (l := l.drop f) (i := i - f) (by simp; omega)
  rw [hd, show f + (i - f) = i by omega, hc, List.drop_drop, show f + (i - f + 1) = i + 1 by omega] at e
  have hn : c ∉ (l.drop f).take (i - f) := not_in_take fun j hj => by rw [hd]; exact h _ (by omega) (by omega)
  have := split_hit (c := c) (a := (l.drop f).take (i - f)) (b := l.drop (i + 1)) hn
  rw [← e] at this
  rw [this, List.drop_take]
theorem split_end {l : List UInt8} {c : UInt8} {f : Nat} (h : ∀ j, f ≤ j → j < l.length → l.getD j 0 ≠ c) : splitB c (l.drop f) = [l.drop f] :=
  split_miss (not_in fun j hj => by
    have : (l.drop f).getD j 0 = l.getD (f + j) 0 := by simp [List.getD_eq_getElem?_getD]
    rw [this]; exact h _ (by omega) (by simp at hj; omega))
/-- the cells of some texts -/
def scells (p : List (List UInt8)) : List Value := p.map fun x => .string ⟨x.toArray⟩
theorem scells_snoc (p : List (List UInt8)) (x : List UInt8) : scells (p ++ [x]) = scells p ++ [.string ⟨x.toArray⟩] := by simp [scells]
theorem infoStr : (Tryz.prog.info? 9).map (fun i => (i.zero, i.size, i.bytes)) = some (some (.string ⟨#[]⟩), 1, 16) := by kernel_rfl
theorem cell_one_add (w : World) (a : Value) (t : TypeId) (j : Nat) (u : Value) (h : [a][j]? = some u) : (w.alloc (.cells #[a] t (0, 0))).cell? ((⟨w.heap.size, 0, none⟩ : Addr).add j) = some u := by
  have e : (⟨w.heap.size, 0, none⟩ : Addr).add j = ⟨w.heap.size, j, none⟩ := by simp [Addr.add]; omega
  rw [e, cell_of_row _ _ j _ _ _ (heap_alloc_new w _), ← h]; simp
set_option maxRecDepth 8000 in
set_option maxHeartbeats 1000000 in
theorem rCut_any (s : ByteArray) (hs : s.size ≤ 1048576) (c : UInt8) (w : World) : Calls Tryz.prog 144 #[.string s, .int .u8 (c.toNat : Int)] w fun r w' => ∃ v, r = .returned v ∧ w'.ownsRow w.heap.size 9 1 v (splitB c s.data.toList).length (scells (splitB c s.data.toList)) ∧ Below w.heap.size w w' := by
  have hl := len_data s
  have hx : ∀ (i : Nat) (h : i < s.size) (w : World), (Instr.index 9 (.string s) (.int .i64 (i : Int))).run Tryz.prog w = .ok (.int .u8 ((s.data.toList.getD i 0).toNat : Int)) w := fun i h w => by
    rw [idx_str s i i rfl h w, byte_at s i h]
  have hex := extract_list s
  obtain ⟨l, HL⟩ := hid_intro s.data.toList
  rw [← HL.out] at hl hx hex ⊢
  have HX := (show Hid _ from hx)
  have HLL := (show Hid _ from hl)
  have HEX := (show Hid _ from hex)
  clear hx hl hex
  obtain ⟨i0, hi0, hz0, hz1, hz2⟩ := info_parts infoStr
  go_enter Tryz.func144, Tryz.ntmps144
  go_wp2
  go_loopw [5, 6, 7] (fun vo vf vi wr => ∃ (parts : List (List UInt8)) (f i : Nat), f ≤ i ∧ i ≤ s.size ∧ parts.length ≤ i ∧ vf = .int .i64 f ∧ vi = .int .i64 i ∧ Hid (splitB c l = parts ++ splitB c (l.drop f)) ∧ Hid (∀ j, f ≤ j → j < i → l.getD j 0 ≠ c) ∧ Hid (wr.ownsRow w.heap.size 9 1 vo parts.length (scells parts)) ∧ Below w.heap.size w wr) (fun _ _ vi _ => s.size - (intOf vi).toNat)
  case atStart => exact ⟨[], 0, 0, by omega, by omega, by simp, rfl, rfl, by show _ = _; simp, fun j _ hj => by omega, World.ownsRow_nil _ _ _ _, Below.refl ..⟩
  case round =>
    obtain ⟨parts, f, i, hfi, hi, hpl, rfl, rfl, HS, HA, HO, hb⟩ := hrel
    have hbs := hb.size
    by_cases hlt : i < s.size
    · have hix := fun w => HX.out i hlt w
      have hbe := byte_eq (x := l.getD i 0) (c := c)
      by_cases hc : l.getD i 0 = c
      · have hst := split_step hfi (by have := HLL.out; omega) HA.out hc
        have HS2 : Hid (splitB c l = (parts ++ [(l.take i).drop f]) ++ splitB c (l.drop (i + 1))) := by show _ = _; rw [HS.out, hst]; simp
        rw [decide_eq_true hc] at hbe
        have hsl := fun w => slice_str s f i f i rfl rfl hfi (by omega) w
        rw [HEX.out] at hsl
        have HL2 : Hid (parts.length + 1 = (parts ++ [(l.take i).drop f]).length) := by show _ = _; simp
        have HC2 := (show Hid _ from scells_snoc parts ((l.take i).drop f))
        obtain ⟨p, HP⟩ := hid_intro ((l.take i).drop f)
        rw [← HP.out] at hsl HS2 HL2 HC2
        obtain ⟨n, HN⟩ := hid_intro parts.length
        rw [← HN.out] at hpl HO HL2
        obtain ⟨E, HE⟩ := hid_intro (scells parts)
        rw [← HE.out] at HO HC2
        obtain ⟨k, HK⟩ := hid_intro (l.getD i 0).toNat
        rw [← HK.out] at hix hbe
        clear hst hc HA
        go_wp2_with (at_builtin; refine wpList_append_lies _ rfl _ _ 224 rfl w.heap.size 9 i0 (.string ⟨#[]⟩) 1 16 Tryz.underlying224 hi0 hz0 hz1 hz2 rfl (by decide) _ n E rfl (World.ownsRow.alloc HO.out _) ⟨_, 0, none⟩ 1 1 [.string ⟨p.toArray⟩] rfl rfl (cell_one_add _ _ _) (by simp [Value.oneCell']) (by decide) (by unfold maxLen; omega) (by omega) (by simp; omega) _ rfl ?_; intro g2 cap2 w5 hown5 hg5 hat _; have HO5 := (show Hid (w5.ownsRow w.heap.size 9 1 (.slice (some ⟨g2, 0, none⟩) (n + 1) cap2) (n + 1) (E ++ [.string ⟨p.toArray⟩])) from hown5); have HB5 : Hid (Below w.heap.size w w5) := grown_below (hb.alloc hbs _) (World.ownsRow.alloc HO.out _) (Nat.le_refl _) (by simp; omega) hg5; clear hown5 hg5 hat)
        go_roundw
        case rel =>
          refine ⟨parts ++ [p], i + 1, i + 1, by omega, by omega, by rw [← HL2.out]; omega, by go_num, by go_num, HS2, fun j h1 h2 => by omega, ?_, HB5.out⟩
          rw [← HL2.out, HC2.out]
          exact HO5
        case measure => simp [intOf]; omega
      · have HA2 : Hid (∀ j, f ≤ j → j < i + 1 → l.getD j 0 ≠ c) := fun j h1 h2 => by
          by_cases e : j = i
          · rw [e]; exact hc
          · exact HA.out j h1 (by omega)
        rw [decide_eq_false hc] at hbe
        obtain ⟨k, HK⟩ := hid_intro (l.getD i 0).toNat
        rw [← HK.out] at hix hbe
        clear hc HA
        go_wp2
        go_roundw
        case rel => exact ⟨parts, f, i + 1, by omega, by omega, by omega, rfl, by go_num, HS, HA2, HO, hb⟩
        case measure => simp [intOf]; omega
    · obtain rfl : i = s.size := by omega
      have hst := split_end (l := l) (c := c) (f := f) (fun j h1 h2 => HA.out j h1 (by have := HLL.out; omega))
      have HS2 : Hid (splitB c l = parts ++ [l.drop f]) := by show _ = _; rw [HS.out, hst]
      have hsl := fun w => sl_from s f f rfl hfi w
      rw [HEX.out, ← HLL.out, List.take_length] at hsl
      have HL2 : Hid (parts.length + 1 = (parts ++ [l.drop f]).length) := by show _ = _; simp
      have HC2 := (show Hid _ from scells_snoc parts (l.drop f))
      obtain ⟨p, HP⟩ := hid_intro (l.drop f)
      rw [← HP.out] at hsl HS2 HL2 HC2
      obtain ⟨n, HN⟩ := hid_intro parts.length
      rw [← HN.out] at hpl HO HL2
      obtain ⟨E, HE⟩ := hid_intro (scells parts)
      rw [← HE.out] at HO HC2
      clear HA HX hst HS
      go_wp2_with (at_builtin; refine wpList_append_lies _ rfl _ _ 224 rfl w.heap.size 9 i0 (.string ⟨#[]⟩) 1 16 Tryz.underlying224 hi0 hz0 hz1 hz2 rfl (by decide) _ n E rfl (World.ownsRow.alloc HO.out _) ⟨_, 0, none⟩ 1 1 [.string ⟨p.toArray⟩] rfl rfl (cell_one_add _ _ _) (by simp [Value.oneCell']) (by decide) (by unfold maxLen; omega) (by omega) (by simp; omega) _ rfl ?_; intro g2 cap2 w5 hown5 hg5 hat _; have HO5 := (show Hid (w5.ownsRow w.heap.size 9 1 (.slice (some ⟨g2, 0, none⟩) (n + 1) cap2) (n + 1) (E ++ [.string ⟨p.toArray⟩])) from hown5); have HB5 : Hid (Below w.heap.size w w5) := grown_below (hb.alloc hbs _) (World.ownsRow.alloc HO.out _) (Nat.le_refl _) (by simp; omega) hg5; clear hown5 hg5 hat)
      go_ret
      refine ⟨_, rfl, ?_, HB5.out⟩
      rw [HS2.out, ← HL2.out, HC2.out]
      exact HO5.out
end Go.Proofs.YtnmgebpccbachaaGreatDoor.Lk
