/- What (*strings.Builder)'s WriteByte, WriteString, Grow and String do at this program, one application of the library's contract each, by hand-laid numberings. The program writes a lock file. The series of a tree: the program's. A tree out of entries: the program's. A tree out of a series: the program's. -/
import Derived.Shelf.Strings.Builder1
import Derived.Shelf.Strings.Builder2
import Derived.Shelf.Strings.BuilderK
import Derived.Test.YtgfbbcnnmoamnaaGreatDoorProg
import Derived.Test.YtgfbbcnnmoamnaaGreatDoorLkPure
import Derived.Test.YtgfbbcnnmoamnaaGreatDoorMid
import Derived.Test.YtgfbbcnnmoamnaaGreatDoorUnF
namespace Go.Proofs
open Go.Shelf
def Tryz.lays169_ren : Go.Shelf.Ren := ⟨fun | 169 => 23 | n => n, fun | 0 => 0 | 3 => 3 | 5 => 5 | 9 => 9 | 37 => 66 | 70 => 68 | 72 => 70 | 127 => 125 | n => n, fun | n => n⟩
theorem Tryz.lays169 : Go.Proofs.Lays.n169 Tryz.prog Tryz.lays169_ren := {
  mixed := by kernel_rfl
  f169 := Tryz.func23.trans (congrArg some (by kernel_rfl))
  t0 := Tryz.underlying0
  a0 := Tryz.isAgg0
  z0 := Tryz.sizeOf0
  v0 := Tryz.zeroValue0
  t3 := Tryz.underlying3
  a3 := Tryz.isAgg3
  z3 := Tryz.sizeOf3
  v3 := Tryz.zeroValue3
  t9 := Tryz.underlying9
  a9 := Tryz.isAgg9
  z9 := Tryz.sizeOf9
  v9 := Tryz.zeroValue9
  t37 := Tryz.underlying66
  a37 := Tryz.isAgg66
  z37 := Tryz.sizeOf66
  v37 := Tryz.zeroValue66
  t70 := Tryz.underlying68
  a70 := Tryz.isAgg68
  z70 := Tryz.sizeOf68
  v70 := Tryz.zeroValue68
  t72 := Tryz.underlying70
  a72 := Tryz.isAgg70
  z72 := Tryz.sizeOf70
  v72 := Tryz.zeroValue70
  t127 := Tryz.underlying125
  a127 := Tryz.isAgg125
  z127 := Tryz.sizeOf125
  v127 := Tryz.zeroValue125 }
theorem Tryz.Builder_Extra_169 : Builder.Extra Tryz.prog Tryz.lays169_ren := {
  sizeBuilder := by kernel_rfl
  liesBuilder := by kernel_rfl
  t5 := Tryz.underlying5
  a5 := Tryz.isAgg5
  z5 := Tryz.sizeOf5
  v5 := Tryz.zeroValue5
  infoByte := by kernel_rfl
  cellsByte := by kernel_rfl
  sizeByte := by kernel_rfl
  neB5 := by decide }
def Tryz.lays165_ren : Go.Shelf.Ren := ⟨fun | 165 => 186 | 240 => 58 | 241 => 238 | 276 => 122 | 277 => 291 | n => n, fun | 0 => 0 | 3 => 3 | 4 => 4 | 5 => 5 | 9 => 9 | 20 => 20 | 37 => 66 | 70 => 68 | 72 => 70 | 164 => 126 | n => n, fun | n => n⟩
theorem Tryz.lays165 : Go.Proofs.Lays.n165 Tryz.prog Tryz.lays165_ren := {
  mixed := by kernel_rfl
  f165 := Tryz.func186.trans (congrArg some (by kernel_rfl))
  f240 := Tryz.func58.trans (congrArg some (by kernel_rfl))
  f241 := Tryz.func238.trans (congrArg some (by kernel_rfl))
  f276 := Tryz.func122.trans (congrArg some (by kernel_rfl))
  f277 := Tryz.func291.trans (congrArg some (by kernel_rfl))
  t0 := Tryz.underlying0
  a0 := Tryz.isAgg0
  z0 := Tryz.sizeOf0
  v0 := Tryz.zeroValue0
  t3 := Tryz.underlying3
  a3 := Tryz.isAgg3
  z3 := Tryz.sizeOf3
  v3 := Tryz.zeroValue3
  t4 := Tryz.underlying4
  a4 := Tryz.isAgg4
  z4 := Tryz.sizeOf4
  v4 := Tryz.zeroValue4
  t9 := Tryz.underlying9
  a9 := Tryz.isAgg9
  z9 := Tryz.sizeOf9
  v9 := Tryz.zeroValue9
  t20 := Tryz.underlying20
  a20 := Tryz.isAgg20
  z20 := Tryz.sizeOf20
  v20 := Tryz.zeroValue20
  t37 := Tryz.underlying66
  a37 := Tryz.isAgg66
  z37 := Tryz.sizeOf66
  v37 := Tryz.zeroValue66
  t70 := Tryz.underlying68
  a70 := Tryz.isAgg68
  z70 := Tryz.sizeOf68
  v70 := Tryz.zeroValue68
  t72 := Tryz.underlying70
  a72 := Tryz.isAgg70
  z72 := Tryz.sizeOf70
  v72 := Tryz.zeroValue70
  t164 := Tryz.underlying126
  a164 := Tryz.isAgg126
  z164 := Tryz.sizeOf126
  v164 := Tryz.zeroValue126 }
theorem Tryz.Builder_Extra_165 : Builder.Extra Tryz.prog Tryz.lays165_ren := {
  sizeBuilder := by kernel_rfl
  liesBuilder := by kernel_rfl
  t5 := Tryz.underlying5
  a5 := Tryz.isAgg5
  z5 := Tryz.sizeOf5
  v5 := Tryz.zeroValue5
  infoByte := by kernel_rfl
  cellsByte := by kernel_rfl
  sizeByte := by kernel_rfl
  neB5 := by decide }
def Tryz.lays167_ren : Go.Shelf.Ren := ⟨fun | 167 => 187 | 240 => 58 | 276 => 122 | n => n, fun | 0 => 0 | 4 => 4 | 5 => 5 | 9 => 9 | 20 => 20 | 37 => 66 | 70 => 68 | 72 => 70 | 75 => 41 | 80 => 44 | 164 => 126 | n => n, fun | n => n⟩
theorem Tryz.lays167 : Go.Proofs.Lays.n167 Tryz.prog Tryz.lays167_ren := {
  mixed := by kernel_rfl
  f167 := Tryz.func187.trans (congrArg some (by kernel_rfl))
  f240 := Tryz.func58.trans (congrArg some (by kernel_rfl))
  f276 := Tryz.func122.trans (congrArg some (by kernel_rfl))
  t0 := Tryz.underlying0
  a0 := Tryz.isAgg0
  z0 := Tryz.sizeOf0
  v0 := Tryz.zeroValue0
  t4 := Tryz.underlying4
  a4 := Tryz.isAgg4
  z4 := Tryz.sizeOf4
  v4 := Tryz.zeroValue4
  t5 := Tryz.underlying5
  a5 := Tryz.isAgg5
  z5 := Tryz.sizeOf5
  v5 := Tryz.zeroValue5
  t9 := Tryz.underlying9
  a9 := Tryz.isAgg9
  z9 := Tryz.sizeOf9
  v9 := Tryz.zeroValue9
  t20 := Tryz.underlying20
  a20 := Tryz.isAgg20
  z20 := Tryz.sizeOf20
  v20 := Tryz.zeroValue20
  t37 := Tryz.underlying66
  a37 := Tryz.isAgg66
  z37 := Tryz.sizeOf66
  v37 := Tryz.zeroValue66
  t70 := Tryz.underlying68
  a70 := Tryz.isAgg68
  z70 := Tryz.sizeOf68
  v70 := Tryz.zeroValue68
  t72 := Tryz.underlying70
  a72 := Tryz.isAgg70
  z72 := Tryz.sizeOf70
  v72 := Tryz.zeroValue70
  t75 := Tryz.underlying41
  a75 := Tryz.isAgg41
  z75 := Tryz.sizeOf41
  v75 := Tryz.zeroValue41
  t164 := Tryz.underlying126
  a164 := Tryz.isAgg126
  z164 := Tryz.sizeOf126
  v164 := Tryz.zeroValue126 }
theorem Tryz.Builder_Extra_167 : Builder.Extra Tryz.prog Tryz.lays167_ren := {
  sizeBuilder := by kernel_rfl
  liesBuilder := by kernel_rfl
  t5 := Tryz.underlying5
  a5 := Tryz.isAgg5
  z5 := Tryz.sizeOf5
  v5 := Tryz.zeroValue5
  infoByte := by kernel_rfl
  cellsByte := by kernel_rfl
  sizeByte := by kernel_rfl
  neB5 := by decide }
def Tryz.lays166_ren : Go.Shelf.Ren := ⟨fun | 166 => 20 | 240 => 58 | 276 => 122 | n => n, fun | 0 => 0 | 3 => 3 | 4 => 4 | 5 => 5 | 9 => 9 | 20 => 20 | 37 => 66 | 70 => 68 | 72 => 70 | 75 => 41 | 80 => 44 | 164 => 126 | n => n, fun | n => n⟩
theorem Tryz.lays166 : Go.Proofs.Lays.n166 Tryz.prog Tryz.lays166_ren := {
  mixed := by kernel_rfl
  f166 := Tryz.func20.trans (congrArg some (by kernel_rfl))
  f240 := Tryz.func58.trans (congrArg some (by kernel_rfl))
  f276 := Tryz.func122.trans (congrArg some (by kernel_rfl))
  t0 := Tryz.underlying0
  a0 := Tryz.isAgg0
  z0 := Tryz.sizeOf0
  v0 := Tryz.zeroValue0
  t3 := Tryz.underlying3
  a3 := Tryz.isAgg3
  z3 := Tryz.sizeOf3
  v3 := Tryz.zeroValue3
  t4 := Tryz.underlying4
  a4 := Tryz.isAgg4
  z4 := Tryz.sizeOf4
  v4 := Tryz.zeroValue4
  t9 := Tryz.underlying9
  a9 := Tryz.isAgg9
  z9 := Tryz.sizeOf9
  v9 := Tryz.zeroValue9
  t20 := Tryz.underlying20
  a20 := Tryz.isAgg20
  z20 := Tryz.sizeOf20
  v20 := Tryz.zeroValue20
  t37 := Tryz.underlying66
  a37 := Tryz.isAgg66
  z37 := Tryz.sizeOf66
  v37 := Tryz.zeroValue66
  t70 := Tryz.underlying68
  a70 := Tryz.isAgg68
  z70 := Tryz.sizeOf68
  v70 := Tryz.zeroValue68
  t72 := Tryz.underlying70
  a72 := Tryz.isAgg70
  z72 := Tryz.sizeOf70
  v72 := Tryz.zeroValue70
  t75 := Tryz.underlying41
  a75 := Tryz.isAgg41
  z75 := Tryz.sizeOf41
  v75 := Tryz.zeroValue41
  t164 := Tryz.underlying126
  a164 := Tryz.isAgg126
  z164 := Tryz.sizeOf126
  v164 := Tryz.zeroValue126 }
theorem Tryz.Builder_Extra_166 : Builder.Extra Tryz.prog Tryz.lays166_ren := {
  sizeBuilder := by kernel_rfl
  liesBuilder := by kernel_rfl
  t5 := Tryz.underlying5
  a5 := Tryz.isAgg5
  z5 := Tryz.sizeOf5
  v5 := Tryz.zeroValue5
  infoByte := by kernel_rfl
  cellsByte := by kernel_rfl
  sizeByte := by kernel_rfl
  neB5 := by decide }
open Go.RowKit in
theorem Tryz.Builder_String_any (B b : Nat) (l : List UInt8) (w : World) (h : Lib.IsBuilderF 70 5 B b (Lib.byteCells l) w) (hBw : B ≤ w.heap.size) :
    Calls Tryz.prog 23 #[.pointer (some ⟨b, 0, none⟩)] w fun e w' => e = .returned (.string ⟨l.toArray⟩) ∧ (Lib.IsBuilderF 70 5 B b (Lib.byteCells l) w' ∧ Below B w w' ∧ Lib.OthersKept 5 (some b) w w') := Any.Builder_String_any_k Tryz.lays169 Tryz.Builder_Extra_169 B b l w h hBw
open Go.RowKit in
theorem Tryz.Builder_Grow_fresh (B b n : Nat) (w : World) (hB : B ≤ b) (hbk : w.heap[b]? = some (.cells #[.pointer none, .slice none 0 0] 70 (0, 0))) (hBw : B ≤ w.heap.size) (hn : n ≤ 281474976710656) :
    Calls Tryz.prog 186 #[.pointer (some ⟨b, 0, none⟩), .int .i64 n] w fun e w' => e = .returned (.tuple #[]) ∧ (Lib.BuilderAt 70 5 B b (.pointer (some ⟨b, 0, none⟩)) [] w' ∧ Below B w w') := Any.Builder_Grow_fresh Tryz.lays165 Tryz.Builder_Extra_165 B b n w hB hbk hBw hn
open Go.RowKit in
theorem Tryz.Builder_WriteByte (B b : Nat) (bs : List Value) (c : Int) (w : World) (h : Lib.IsBuilderF 70 5 B b bs w) (hlen : bs.length + 1 ≤ 140737488355328) (hBw : B ≤ w.heap.size) :
    Calls Tryz.prog 187 #[.pointer (some ⟨b, 0, none⟩), .int .u8 c] w fun e w' => e = .returned .nilIface ∧ (Lib.BuilderAtF 70 5 B b (.pointer (some ⟨b, 0, none⟩)) (bs ++ [.int .u8 c]) w' ∧ Below B w w' ∧ Lib.OthersKept 5 (some b) w w') := Any.Builder_WriteByte_k Tryz.lays167 Tryz.Builder_Extra_167 B b bs c w h hlen hBw
open Go.RowKit in
theorem Tryz.Builder_WriteString (B b : Nat) (bs : List Value) (s : ByteArray) (w : World) (h : Lib.IsBuilderF 70 5 B b bs w) (hlen : bs.length + s.size ≤ 140737488355328) (hBw : B ≤ w.heap.size) :
    Calls Tryz.prog 20 #[.pointer (some ⟨b, 0, none⟩), .string s] w fun e w' => e = .returned (.tuple #[.int .i64 s.size, .nilIface]) ∧ (Lib.BuilderAtF 70 5 B b (.pointer (some ⟨b, 0, none⟩)) (bs ++ Lib.strCells s) w' ∧ Below B w w' ∧ Lib.OthersKept 5 (some b) w w') := Any.Builder_WriteString_k Tryz.lays166 Tryz.Builder_Extra_166 B b bs s w h hlen hBw
end Go.Proofs

namespace Go.Proofs.YtgfbbcnnmoamnaaGreatDoor.Lk
open Go.RowKit Go.Proofs.YtgfbbcnnmoamnaaGreatDoor

theorem ownsRowF_keep {w w' : World} {base : Nat} {e : TypeId} {size : Nat} {v : Value} {n : Nat} {xs : List Value} (h : w.ownsRowF base e size v n xs) (hb : Below w.heap.size w w') : w'.ownsRowF base e size v n xs := by
  refine ⟨h.1, ?_⟩
  rcases h.2 with hn | ⟨g, cap, cur, fz, hv, h1, hg, rest⟩
  · exact .inl hn
  · exact .inr ⟨g, cap, cur, fz, hv, h1, (hb.block g (lt_of_block hg)).trans hg, rest⟩
theorem builder_keep {T e : TypeId} {B b : Nat} {bs : List Value} {w w' : World} (h : Lib.IsBuilderF T e B b bs w) (hb : Below w.heap.size w w') : Lib.IsBuilderF T e B b bs w' := by
  rcases h with ⟨hB, v, hbk, hown, hne⟩ | ⟨hB, v, hbk, hown, hne⟩
  · exact .inl ⟨hB, v, (hb.block b (lt_of_block hbk)).trans hbk, ownsRowF_keep hown hb, hne⟩
  · exact .inr ⟨hB, v, (hb.block b (lt_of_block hbk)).trans hbk, ownsRowF_keep hown hb, hne⟩
theorem builder_new {T e : TypeId} {w : World} : Lib.IsBuilderF T e w.heap.size w.heap.size [] (w.alloc (.cells #[.pointer none, .slice none 0 0] T (0, 0))) :=
  .inl ⟨Nat.le_refl _, _, heap_alloc_new w _, ⟨by simp, .inl ⟨rfl, rfl⟩⟩, by simp [Value.ownBlock]⟩
theorem take_snoc {l : List M} {i : Nat} {m : M} (h : l[i]? = some m) : l.take (i + 1) = l.take i ++ [m] := by
  rw [List.take_add_one, h]; rfl
theorem cat_line (m : M) : (⟨m.n.toArray⟩ ++ ⟨#[32]⟩ ++ ⟨m.v.toArray⟩ ++ ⟨#[32]⟩ ++ ⟨m.d.toArray⟩ ++ ⟨#[10]⟩ : ByteArray) = ⟨(lineOf m).toArray⟩ := by
  apply ByteArray.ext
  simp [lineOf, ByteArray.data_append]
theorem ok_sizes {m : M} (h : okM m = true) : m.n.length ≤ 16 ∧ m.v.length ≤ 16 ∧ m.d.length = 64 := by
  simp only [okM, nameB, digB, Bool.and_eq_true, decide_eq_true_eq] at h
  obtain ⟨⟨⟨⟨⟨⟨_, h1⟩, _⟩, _⟩, _⟩, ⟨⟨⟨⟨_, h2⟩, _⟩, _⟩, _⟩⟩, _, h3⟩ := h
  exact ⟨h1, h2, h3⟩
theorem printL_le {l : List M} : ∀ (i : Nat), (∀ j, j < i → okAt l j = true) → i ≤ l.length → (printL (l.take i)).length ≤ 99 * i
  | 0, _, _ => by simp [printL]
  | i + 1, h, hi => by
    obtain ⟨m, hm⟩ : ∃ m, l[i]? = some m := ⟨l[i]'(by omega), List.getElem?_eq_getElem _⟩
    have hk := okAt_ok (h i (by omega))
    rw [List.getD_eq_getElem?_getD, hm] at hk
    have h1 := okM_len hk
    have h2 := printL_le i (fun j hj => h j (by omega)) (by omega)
    rw [take_snoc hm, printL_snoc, List.length_append]
    show _ + (lineOf m).length ≤ _
    have h3 : (lineOf m).length ≤ 99 := h1
    omega
/-- what is written: nothing, if one may not be there -/
def outL (l : List M) : List UInt8 := if firstBad l = 0 then printL l else []
theorem outL_ok {l : List M} (h : firstBad l = 0) : outL l = printL l := by rw [outL, if_pos h]
theorem outL_bad {l : List M} (h : firstBad l ≠ 0) : outL l = [] := by rw [outL, if_neg h]
set_option maxRecDepth 8000 in
set_option maxHeartbeats 1000000 in
theorem lPrint_any (l : List M) (hl : l.length ≤ 1048576) (hft : Fit l) (g cap : Nat) (hcap : l.length ≤ cap) (hcap2 : cap ≤ 9223372036854775807) (w : World) (hr : Row w g l) :
    Calls Tryz.prog 143 #[.slice (some ⟨g, 0, none⟩) l.length cap] w fun r w' => r = .returned (.tuple #[.string ⟨(outL l).toArray⟩, .int .i64 (errOf (firstBad l)), .int .i64 (firstBad l : Int)]) ∧ Below w.heap.size w w' := by
  have HR : Hid (Row w g l) := hr
  have HFT : Hid (Fit l) := hft
  have hgl := hr.lt
  clear hr hft
  obtain ⟨n, HN⟩ := hid_intro l.length
  rw [← HN.out] at hl hcap ⊢
  go_enter Tryz.func143, Tryz.ntmps143
  go_wp2
  go_loopw [10] (fun vi wr => ∃ i : Nat, i ≤ n ∧ vi = .int .i64 i ∧ Hid (∀ j, j < i → okAt l j = true) ∧ Hid (Lib.IsBuilderF 70 5 w.heap.size w.heap.size (Lib.byteCells (printL (l.take i))) wr) ∧ Below w.heap.size w wr) (fun vi _ => n - (intOf vi).toNat)
  case atStart => exact ⟨0, by omega, rfl, fun j hj => by omega, builder_new, (Below.refl _ w).alloc (Nat.le_refl _) _⟩
  case round =>
    obtain ⟨i, hi, rfl, HA, HBD, hb⟩ := hrel
    have hbs := hb.size
    by_cases hlt : i < n
    · obtain ⟨m, hm⟩ : ∃ m, l[i]? = some m := ⟨l[i]'(by rw [← HN.out]; exact hlt), List.getElem?_eq_getElem _⟩
      have HM := (show Hid _ from hm)
      obtain ⟨c1, c2, c3⟩ := HR.out.at0 i m hm
      have e1 := (hb.cell (p := ⟨g, i * 3, none⟩) hgl).trans c1
      have e2 := (hb.cell (p := ⟨g, i * 3 + 1, none⟩) hgl).trans c2
      have e3 := (hb.cell (p := ⟨g, i * 3 + 2, none⟩) hgl).trans c3
      clear c1 c2 c3 hm
      have hic : i ≤ cap := by omega
      have hb0 : (wr.alloc (.cells #[.string ⟨m.n.toArray⟩, .string ⟨m.v.toArray⟩, .string ⟨m.d.toArray⟩] 86 (0, 0))).heap[wr.heap.size]? = some (.cells #[.string ⟨m.n.toArray⟩, .string ⟨m.v.toArray⟩, .string ⟨m.d.toArray⟩] 86 (0, 0)) := heap_alloc_new wr _
      have hti : (l.take i).length = i := by rw [List.length_take]; have := HN.out; omega
      have HMF := (show Hid _ from mayFollow_any (l.take i) m (.slice (some ⟨g, 0, none⟩) i cap) (wr.alloc (.cells #[.string ⟨m.n.toArray⟩, .string ⟨m.v.toArray⟩, .string ⟨m.d.toArray⟩] 86 (0, 0))).drew (by rw [hti]; omega) (.inr ⟨g, cap, by rw [hti], by
        have h1 : Row wr g l := HR.out.below hb hgl
        have h2 : Row (wr.alloc (.cells #[.string ⟨m.n.toArray⟩, .string ⟨m.v.toArray⟩, .string ⟨m.d.toArray⟩] 86 (0, 0))).drew g l := h1.below (((Below.refl _ wr).alloc (Nat.le_refl _) _).drew) h1.lt
        exact ⟨h2.lt, fun j q hj => h2.at0 j q (by
          have hjl := (List.getElem?_eq_some_iff.1 hj).1
          rw [hti] at hjl
          rwa [List.getElem?_take_of_lt hjl] at hj)⟩⟩))
      clear hti
      have hBA : Below wr.heap.size wr (wr.alloc (.cells #[.string ⟨m.n.toArray⟩, .string ⟨m.v.toArray⟩, .string ⟨m.d.toArray⟩] 86 (0, 0))).drew := ((Below.refl _ wr).alloc (Nat.le_refl _) _).drew
      have HBA : Hid (Below wr.heap.size wr (wr.alloc (.cells #[.string ⟨m.n.toArray⟩, .string ⟨m.v.toArray⟩, .string ⟨m.d.toArray⟩] 86 (0, 0))).drew) := hBA
      clear hBA
      cases hmay : mayB (l.take i) m with
      | false =>
        have HP : Hid (firstBad l = i + 1) := firstBad_at (by rw [← HN.out]; exact hlt) (by rw [okAt_of HM.out]; exact hmay) HA.out
        rw [hmay] at HMF
        clear hmay HA
        go_wp2
        refine region_mid 4 _ _ rfl rfl (by kernel_rfl) (by kernel_rfl) ?_
        simp only [List.take_succ_cons, List.take_zero]
        still_step
        still_step
        still_step
        refine wpStill_step (fun K hK => ?_)
        refine still_load_row 86 (.tmp 7) rfl wr.heap.size rfl 86 _ (0, 0) _ hb0 Tryz.underlying86 rfl sizeLocked (hK _ ?_)
        clear hK K
        repeat still_step
        refine wpStill_nil (fun K hK => ?_)
        go_simp
        refine (Calls.mono HMF.out ?_); rintro e w1 ⟨rfl, hb1⟩; have HB1 := (show Hid (Below (wr.alloc (.cells #[.string ⟨m.n.toArray⟩, .string ⟨m.v.toArray⟩, .string ⟨m.d.toArray⟩] 86 (0, 0))).drew.heap.size _ w1) from hb1); clear hb1
        refine hK _ _ ?_
        clear hK K
        repeat still_step
        refine wpStill_nil ?_
        clear HMF
        go_wp2
        go_ret3
        refine ⟨?_, hb.trans ((HBA.out.trans (HB1.out.mono (by simp))).mono hbs)⟩
        rw [outL_bad (by rw [HP.out]; omega), HP.out]
        rfl
      | true =>
        have hok : okAt l i = true := by rw [okAt_of HM.out]; exact hmay
        have HA2 : Hid (∀ j, j < i + 1 → okAt l j = true) := fun j hj => by
          by_cases e : j = i
          · rw [e]; exact hok
          · exact HA.out j (by omega)
        have hmk : okM m = true := by simp only [mayB, Bool.and_eq_true] at hmay; exact hmay.1
        obtain ⟨z1, z2, z3⟩ := ok_sizes hmk
        have hpl := printL_le (l := l) i HA.out (by rw [← HN.out]; exact hi)
        have h10 : i ≤ 1048576 := by omega
        have HT : Hid (printL (l.take (i + 1)) = printL (l.take i) ++ lineOf m) := by show _ = _; rw [take_snoc HM.out, printL_snoc]
        have HCL := (show Hid _ from cat_line m)
        have hll : (lineOf m).length ≤ 99 := okM_len hmk
        have HLL := (show Hid _ from hll)
        rw [hmay] at HMF
        clear hmay hok hmk hll HA
        obtain ⟨pl, HPL⟩ := hid_intro (printL (l.take i))
        rw [← HPL.out] at HBD HT hpl
        have y1 := size_of m.n
        have y2 := size_of m.v
        have y3 := size_of m.d
        go_wp2
        refine region_mid 4 _ _ rfl rfl (by kernel_rfl) (by kernel_rfl) ?_
        simp only [List.take_succ_cons, List.take_zero]
        still_step
        still_step
        still_step
        refine wpStill_step (fun K hK => ?_)
        refine still_load_row 86 (.tmp 7) rfl wr.heap.size rfl 86 _ (0, 0) _ hb0 Tryz.underlying86 rfl sizeLocked (hK _ ?_)
        clear hK K
        repeat still_step
        refine wpStill_nil (fun K hK => ?_)
        go_simp
        refine (Calls.mono HMF.out ?_); rintro e w1 ⟨rfl, hb1⟩; have HB1 := (show Hid (Below (wr.alloc (.cells #[.string ⟨m.n.toArray⟩, .string ⟨m.v.toArray⟩, .string ⟨m.d.toArray⟩] 86 (0, 0))).drew.heap.size _ w1) from hb1); clear hb1
        refine hK _ _ ?_
        clear hK K
        repeat still_step
        refine wpStill_nil ?_
        clear HMF
        have hq0 := (HB1.out.cell (p := ⟨wr.heap.size, 0, none⟩) (by simp)).trans (cell_three_new wr _ _ _ 86 0 _ rfl)
        have hq1 := (HB1.out.cell (p := ⟨wr.heap.size, 1, none⟩) (by simp)).trans (cell_three_new wr _ _ _ 86 1 _ rfl)
        have hq2 := (HB1.out.cell (p := ⟨wr.heap.size, 2, none⟩) (by simp)).trans (cell_three_new wr _ _ _ 86 2 _ rfl)
        have HW1 : Hid (Below wr.heap.size wr w1) := HBA.out.trans (HB1.out.mono (by simp))
        have HBD1 : Hid (Lib.IsBuilderF 70 5 w.heap.size w.heap.size (Lib.byteCells pl) w1) := builder_keep HBD.out HW1.out
        have hw1s := HW1.out.size
        have hbl : (Lib.byteCells pl).length = pl.length := by simp [Lib.byteCells]
        go_wp2_with (go_at_call 20; refine (Tryz.Builder_WriteString w.heap.size w.heap.size (Lib.byteCells pl) _ _ HBD1.out (by first | (rw [hbl]; simp only [ByteArray.size_append, y1, y2, y3]; show _ + (_ + 1 + _ + 1 + _ + 1) ≤ _; omega) | skip) (by omega)).mono ?_; rintro e w2 ⟨rfl, hbd2, hb2, _⟩; rw [HCL.out] at hbd2)
        go_roundw
        case rel =>
          refine ⟨i + 1, by omega, by go_num, HA2, ?_, hb.trans ((HW1.out.mono hbs).trans hb2)⟩
          rw [HT.out, Lib.byteCells_append]
          exact .inr hbd2
        case measure => simp [intOf]; omega
    · obtain rfl : i = n := by omega
      have HP := (show Hid _ from firstBad_none (l := l) (fun j hj => HA.out j (by rw [HN.out]; exact hj)))
      rw [show l.take i = l by rw [HN.out]; simp] at HBD
      go_wp2_with (go_at_call 23; refine (Tryz.Builder_String_any _ _ _ _ HBD.out hbs).mono ?_; rintro e w3 ⟨rfl, _, hl3, _⟩)
      go_ret3
      exact ⟨by rw [outL_ok HP.out, HP.out]; rfl, hb.trans hl3⟩
theorem lPrint_nil (w : World) : Calls Tryz.prog 143 #[.slice none 0 0] w fun r w' => r = .returned (.tuple #[.string ⟨(outL []).toArray⟩, .int .i64 (errOf (firstBad [])), .int .i64 (firstBad [] : Int)]) ∧ Below w.heap.size w w' := by
  go_enter Tryz.func143, Tryz.ntmps143
  go_wp2
  go_loopw [10] (fun vi wr => vi = .int .i64 0 ∧ wr = w.alloc (.cells #[.pointer none, .slice none 0 0] 70 (0, 0))) (fun _ _ => 0)
  case atStart => exact ⟨rfl, rfl⟩
  case round =>
    obtain ⟨rfl, hw⟩ := hrel
    rw [hw]; clear hw
    go_wp2_with (go_at_call 23; refine (Tryz.Builder_String_any w.heap.size w.heap.size [] _ builder_new (by simp)).mono ?_; rintro e w3 ⟨rfl, _, hl3, _⟩)
    go_ret3
    exact ⟨rfl, ((Below.refl _ w).alloc (Nat.le_refl _) _).trans hl3⟩
theorem bPrintLock_any (l : List M) (hl : l.length ≤ 1048576) (hft : Fit l) (v : Value) (w : World) (hv : (l = [] ∧ v = .slice none 0 0) ∨ ∃ g cap, v = .slice (some ⟨g, 0, none⟩) l.length cap ∧ l.length ≤ cap ∧ cap ≤ 9223372036854775807 ∧ Row w g l) :
    Calls Tryz.prog 86 #[v] w fun r w' => r = .returned (.tuple #[.string ⟨(outL l).toArray⟩, .int .i64 (errOf (firstBad l)), .int .i64 (firstBad l : Int)]) ∧ Below w.heap.size w w' := by
  have HC : Hid (∀ w', w' = w → Calls Tryz.prog 143 #[v] w' fun r w' => r = .returned (.tuple #[.string ⟨(outL l).toArray⟩, .int .i64 (errOf (firstBad l)), .int .i64 (firstBad l : Int)]) ∧ Below w.heap.size w w') := fun w' e => by
    rw [e]
    rcases hv with ⟨rfl, rfl⟩ | ⟨g, cap, rfl, h1, h2, hr⟩
    · exact lPrint_nil w
    · exact lPrint_any l hl hft g cap h1 h2 w hr
  clear hv
  obtain ⟨x, HX⟩ := hid_intro (outL l)
  obtain ⟨y, HY⟩ := hid_intro (errOf (firstBad l))
  obtain ⟨z, HZ⟩ := hid_intro (firstBad l)
  rw [← HX.out, ← HY.out, ← HZ.out] at HC ⊢
  go_enter Tryz.func86, Tryz.ntmps86
  go_wp2_with (go_at_call 143; refine (HC.out _ rfl).mono ?_; rintro e w3 ⟨rfl, hl3⟩)
  go_ret3
  exact ⟨rfl, hl3⟩
theorem bReadLock_any (s : ByteArray) (hs : s.size ≤ 9223372036854775807) (w : World) : Calls Tryz.prog 82 #[.string s] w fun r w' => ∃ v, r = .returned (.tuple #[v, .int .i64 (errOf (readL s.data.toList []).1), .int .i64 ((readL s.data.toList []).1 : Int)]) ∧ w'.ownsRow w.heap.size 86 3 v (readL s.data.toList []).2.length (mcells (readL s.data.toList []).2) ∧ Below w.heap.size w w' := by
  have HC := (show Hid _ from lRead_any s hs)
  obtain ⟨R, HR⟩ := hid_intro (readL s.data.toList [])
  rw [← HR.out] at HC ⊢
  obtain ⟨y, HY⟩ := hid_intro (errOf R.1)
  rw [← HY.out] at HC ⊢
  go_enter Tryz.func82, Tryz.ntmps82
  go_wp2_with (go_at_call 140; refine (HC.out _).mono ?_; rintro e w3 ⟨v3, rfl, ho3, hl3⟩)
  go_ret3
  exact ⟨v3, rfl, ho3, hl3⟩

theorem cat_step (a : List UInt8) (m : M) : (⟨a.toArray⟩ ++ ⟨m.n.toArray⟩ ++ ⟨#[32]⟩ ++ ⟨m.v.toArray⟩ ++ ⟨#[32]⟩ ++ ⟨m.d.toArray⟩ ++ ⟨#[10]⟩ : ByteArray) = ⟨(a ++ lineOf m).toArray⟩ := by
  apply ByteArray.ext
  simp [lineOf, ByteArray.data_append]
set_option maxRecDepth 8000 in
set_option maxHeartbeats 1000000 in
theorem rPrintLock_any (l : List M) (hok : AllOk l) (ao : Option Addr) (cap : Nat) (w : World) (hat : Lies w ao l) :
    Calls Tryz.prog 90 #[.slice ao l.length cap] w fun r w' => r = .returned (.string ⟨(printL l).toArray⟩) ∧ ∃ q, w' = w.drewN q := by
  have HAT : Hid (Lies w ao l) := hat
  have HOK : Hid (AllOk l) := hok
  have hl := hok.le
  clear hat hok
  obtain ⟨n, HN⟩ := hid_intro l.length
  rw [← HN.out] at hl ⊢
  go_enter Tryz.func90, Tryz.ntmps90
  go_wp2
  go_loopw [3, 4] (fun vs vi wr => ∃ i q : Nat, i ≤ n ∧ vi = .int .i64 i ∧ vs = .string ⟨(printL (l.take i)).toArray⟩ ∧ wr = w.drewN q) (fun _ vi _ => n - (intOf vi).toNat)
  case atStart => exact ⟨0, 0, by omega, rfl, by simp [printL], rfl⟩
  case round =>
    obtain ⟨i, q, hi, rfl, rfl, hw⟩ := hrel
    rw [hw]; clear hw
    by_cases hlt : i < n
    · obtain ⟨m, hm⟩ : ∃ m, l[i]? = some m := ⟨l[i]'(by rw [← HN.out]; exact hlt), List.getElem?_eq_getElem _⟩
      have hpl := printL_le (l := l) i (fun j hj => HOK.out j (by have := HN.out; omega)) (by have := HN.out; omega)
      have hk := okAt_ok (HOK.out i (by rw [← HN.out]; exact hlt))
      rw [List.getD_eq_getElem?_getD, hm] at hk
      obtain ⟨z1, z2, z3⟩ := ok_sizes (m := m) hk
      have HT : Hid (printL (l.take (i + 1)) = printL (l.take i) ++ lineOf m) := by show _ = _; rw [take_snoc hm, printL_snoc]
      rcases HAT.out with h0 | ⟨g, o, rfl, hgl, hc⟩
      · rw [h0] at hm; simp at hm
      obtain ⟨c1, c2, c3⟩ := hc i m hm
      clear hc hm hk
      obtain ⟨pl, HPL⟩ := hid_intro (printL (l.take i))
      rw [← HPL.out] at HT hpl ⊢
      have HCL := (show Hid _ from cat_step pl m)
      have y0 := size_of pl
      have y1 := size_of m.n
      have y2 := size_of m.v
      have y3 := size_of m.d
      go_wp2
      go_quiet (fail)
      go_wp2
      go_roundw
      case rel =>
        refine ⟨i + 1, _, by omega, by go_num, ?_, by first | rfl | rw [World.drewN_drewN]⟩
        rw [HT.out, ← HCL.out]
      case measure => simp [intOf]; omega
    · obtain rfl : i = n := by omega
      rw [show l.take i = l by rw [HN.out]; simp]
      go_wp2
      go_ret
      exact ⟨rfl, _, rfl⟩
end Go.Proofs.YtgfbbcnnmoamnaaGreatDoor.Lk

namespace Go.Proofs.YtgfbbcnnmoamnaaGreatDoor.Tr
open Go.RowKit Go.Proofs.YtgfbbcnnmoamnaaGreatDoor Go.Proofs.YtgfbbcnnmoamnaaGreatDoor.Lk

theorem line_len {e : E} (h : e.p.length ≤ 1048576 ∧ e.b.length ≤ 1048576) : (lineE e).length ≤ 4194304 := by
  have := decB_len e.b.length
  unfold lineE
  split <;> simp <;> omega
theorem lines_len : ∀ (m : List E), FitE m → (m.flatMap lineE).length ≤ m.length * 4194304
  | [], _ => by simp
  | e :: m, h => by
    have h1 := line_len (h e List.mem_cons_self)
    have h2 := lines_len m fun x hx => h x (List.mem_cons_of_mem _ hx)
    rw [List.flatMap_cons, List.length_append, List.length_cons]
    omega
theorem fit_take {m : List E} (h : FitE m) (i : Nat) : FitE (m.take i) := fun e he => h e (List.mem_of_mem_take he)
theorem end_cat (n : Nat) : (⟨#[101, 110, 100, 32]⟩ ++ ⟨(decB n).toArray⟩ ++ ⟨#[10]⟩ : ByteArray) = ⟨(endB ++ [32] ++ decB n ++ [10]).toArray⟩ := by
  apply ByteArray.ext
  simp [ByteArray.data_append, endB]
/-- what is written so far -/
def soFar (m : List E) (i : Nat) : List UInt8 := headB ++ (m.take i).flatMap lineE
theorem soFar_step {m : List E} {i : Nat} (hi : i < m.length) : soFar m (i + 1) = soFar m i ++ lineE (getE m i) := by
  rw [soFar, soFar, take_get hi, List.flatMap_append]; simp
theorem soFar_all (m : List E) : soFar m m.length ++ (endB ++ [32] ++ decB m.length ++ [10]) = serE m := by
  rw [soFar, List.take_length, serE, bodyE]; simp
theorem soFar_len {m : List E} (h : FitE m) (i : Nat) (hi : i ≤ m.length) : (soFar m i).length ≤ 10 + i * 4194304 := by
  have := lines_len (m.take i) (fit_take h i)
  rw [List.length_take, Nat.min_eq_left hi] at this
  rw [soFar, List.length_append]
  have : headB.length = 10 := rfl
  omega
theorem strC (l : List UInt8) : Lib.strCells ⟨l.toArray⟩ = Lib.byteCells l := by simp [Lib.strCells, Lib.byteCells]
set_option maxRecDepth 8000 in
set_option maxHeartbeats 1000000 in
theorem series_any (d : Nat) (w : World) (ok : Nat → Prop) (s : Option Addr) (k c : Nat) (m : List E) (h : TreeAt w ok d (.slice s k c) [] m) (h1 : m.length ≤ 1048576) (h2 : FitE m) (hP : Pow w) :
    Calls Tryz.prog 10 #[.agg #[.slice s k c]] w fun r w' => r = .returned (.string ⟨(serE m).toArray⟩) ∧ Below w.heap.size w w' := by
  have hb0 : Below w.heap.size w (w.alloc (.cells #[.slice s k c] 37 (0, 0))) := (Below.refl _ w).alloc (Nat.le_refl _) _
  have HENT := toHid (entries_any d _ ok s k c m (h.below hb0) h1 h2)
  have HB0 := toHid hb0
  have HFT := toHid h2
  have HPW := toHid hP
  obtain ⟨n, HN⟩ := hid_intro m.length
  rw [← HN.out] at h1
  clear hb0 h h2 hP
  go_enter Tryz.func10, Tryz.ntmps10
  go_wp2_with (first
    | (go_at_call 15; refine HENT.out.mono ?_; clear HENT; rintro e w1 ⟨u, rfl, ho, hb⟩; obtain ⟨ao, cap, rfl, hl⟩ := own_lies ho; have HB1 : Hid (Below w.heap.size w w1) := HB0.out.trans (hb.mono (by simp)); have HL1 := toHid hl; clear ho hb hl; rw [← HN.out])
    | (go_at_call 20; refine (Tryz.Builder_WriteString w1.heap.size w1.heap.size [] _ _ builder_new (by simp [ByteArray.size]) (by simp)).mono ?_; rintro e w2 ⟨rfl, hbd2, hb2, _⟩; have HBD2 : Hid (Lib.IsBuilderF 70 5 w1.heap.size w1.heap.size (Lib.byteCells (soFar m 0)) w2) := .inr hbd2; have HB2 : Hid (Below w1.heap.size w1 w2) := ((Below.refl _ w1).alloc (Nat.le_refl _) _).trans hb2; clear hbd2 hb2))
  go_loopw [12] (fun vi wr => ∃ i : Nat, i ≤ n ∧ vi = .int .i64 i ∧ Hid (Lib.IsBuilderF 70 5 w1.heap.size w1.heap.size (Lib.byteCells (soFar m i)) wr) ∧ Below w1.heap.size w1 wr) (fun vi _ => n - (intOf vi).toNat)
  case atStart => exact ⟨0, by omega, rfl, HBD2, HB2.out⟩
  case round =>
    obtain ⟨i, hi, rfl, HBD, hb⟩ := hrel
    have hbs := hb.size
    have HPR : Hid (Pow wr) := (HPW.out.below HB1.out).below hb
    by_cases hlt : i < n
    · have hil : i < m.length := by rw [← HN.out]; exact hlt
      obtain ⟨g, o, rfl, c1, c2, c3⟩ := (HL1.out.below hb).at (i := i) hil
      obtain ⟨hpl, hbl⟩ := HFT.out.at (i := i) hil
      have HST := toHid (soFar_step hil)
      have hsl := soFar_len HFT.out i (by omega)
      have hll := line_len (HFT.out.at hil)
      obtain ⟨e, HE⟩ := hid_intro (getE m i)
      rw [← HE.out] at c1 c2 c3 hpl hbl HST hll
      have hb0 := heap_alloc_new wr (.cells #[.string ⟨e.p.toArray⟩, .bool e.dir, .string ⟨e.b.toArray⟩] 47 (0, 0))
      have HPC := toHid (piece_any e hpl hbl (wr.alloc (.cells #[.string ⟨e.p.toArray⟩, .bool e.dir, .string ⟨e.b.toArray⟩] 47 (0, 0))) (HPR.out.below ((Below.refl _ wr).alloc (Nat.le_refl _) _)))
      obtain ⟨P, HPP⟩ := hid_intro (soFar m i)
      obtain ⟨L, HLL⟩ := hid_intro (lineE e)
      rw [← HPP.out] at HBD HST hsl
      rw [← HLL.out] at HPC HST hll
      have hz := size_of L
      have hbl2 : (Lib.byteCells P).length = P.length := by simp [Lib.byteCells]
      clear hil
      go_wp2_with (first
        | (go_at_call 21; refine HPC.out.mono ?_; clear HPC; rintro e1 w3 ⟨rfl, hb3⟩; have HW3 : Hid (Below wr.heap.size wr w3) := ((Below.refl _ wr).alloc (Nat.le_refl _) _).trans (hb3.mono (by simp)); clear hb3)
        | (go_at_call 20; refine (Tryz.Builder_WriteString w1.heap.size w1.heap.size (Lib.byteCells P) _ _ (builder_keep HBD.out HW3.out) (by rw [hbl2, hz]; omega) (Nat.le_trans hbs HW3.out.size)).mono ?_; rintro e2 w4 ⟨rfl, hbd4, hb4, _⟩; have HBD4 := toHid hbd4; have HB4 := toHid hb4; clear hbd4 hb4))
      go_roundw
      case rel =>
        refine ⟨i + 1, by omega, by go_num, ?_, hb.trans ((HW3.out.mono hbs).trans HB4.out)⟩
        rw [HST.out, Lib.byteCells_append]
        have := HBD4.out
        rw [strC] at this
        exact .inr this
      case measure => simp [intOf]; omega
    · obtain rfl : i = n := by omega
      have HIT := toHid (itoa_any i h1 wr HPR.out)
      have hsl := soFar_len HFT.out i (by rw [← HN.out]; omega)
      have HALL := toHid (soFar_all m)
      rw [← HN.out] at HALL
      have hcat := end_cat i
      have hdl := decB_len i
      obtain ⟨P, HPP⟩ := hid_intro (soFar m i)
      rw [← HPP.out] at HBD HALL hsl
      obtain ⟨L, HLL⟩ := hid_intro (endB ++ [32] ++ decB i ++ [10])
      have hlen : L.length ≤ 1048600 := by rw [HLL.out]; simp [endB]; omega
      rw [← HLL.out] at HALL hcat
      have hz := size_of L
      have hbl2 : (Lib.byteCells P).length = P.length := by simp [Lib.byteCells]
      go_wp2_with (first
        | (go_at_call 22; refine HIT.out.mono ?_; clear HIT; rintro e1 w3 ⟨rfl, hb3⟩; have HW3 := toHid hb3; clear hb3)
        | (go_at_call 20; refine (Tryz.Builder_WriteString w1.heap.size w1.heap.size (Lib.byteCells P) ⟨L.toArray⟩ _ (builder_keep HBD.out HW3.out) (by rw [hbl2, hz]; omega) (Nat.le_trans hbs HW3.out.size)).mono ?_; rintro e2 w4 ⟨rfl, hbd4, hb4, _⟩; rw [strC, ← Lib.byteCells_append, HALL.out] at hbd4; have HBD4 := toHid hbd4; have HB4 := toHid hb4; clear hbd4 hb4)
        | (go_at_call 23; refine (Tryz.Builder_String_any w1.heap.size w1.heap.size (serE m) _ (.inr HBD4.out) (Nat.le_trans (Nat.le_trans hbs HW3.out.size) HB4.out.size)).mono ?_; rintro e3 w5 ⟨rfl, _, hb5, _⟩; have HB5 := toHid hb5; clear hb5))
      go_ret
      exact ⟨rfl, HB1.out.trans ((((hb.trans (HW3.out.mono hbs)).trans HB4.out).trans HB5.out).mono HB1.out.size)⟩
end Go.Proofs.YtgfbbcnnmoamnaaGreatDoor.Tr

namespace Go.Proofs.YtgfbbcnnmoamnaaGreatDoor.Tr
open Go.RowKit Go.Proofs.YtgfbbcnnmoamnaaGreatDoor Go.Proofs.YtgfbbcnnmoamnaaGreatDoor.Lk

theorem rowTmp {P : Program} {fn : Func} {p t : Tmp} {ty : TypeId} (h : fn.results = #[.cell p ty, .tmp t]) (tmps : Array Value) (w : World) (g : Nat) (tt : TypeId) (cs : Array Value) (fr : Nat × Nat) (d : TypeDesc)
    (hp : tmps.getD p undef = .pointer (some ⟨g, 0, none⟩)) (hg : w.heap[g]? = some (.cells cs tt fr))
    (hu : P.underlying ty = some d) (hd : (match d with | .struct _ | .array _ _ => true | _ => false) = true) (hi : (P.info? ty).map (·.size) = some cs.size) :
    (results fn tmps).run P w = .ok (.tuple #[.agg cs, tmps.getD t undef]) w := by
  have hp' : tmps[p]?.getD undef = .pointer (some ⟨g, 0, none⟩) := by simpa using hp
  simp [results, h, hp', asAddr, run_loadVar_row w g tt ty cs fr d hg hu hd hi]
theorem rowTmp2 {P : Program} {fn : Func} {p t u : Tmp} {ty : TypeId} (h : fn.results = #[.cell p ty, .tmp t, .tmp u]) (tmps : Array Value) (w : World) (g : Nat) (tt : TypeId) (cs : Array Value) (fr : Nat × Nat) (d : TypeDesc)
    (hp : tmps.getD p undef = .pointer (some ⟨g, 0, none⟩)) (hg : w.heap[g]? = some (.cells cs tt fr))
    (hu : P.underlying ty = some d) (hd : (match d with | .struct _ | .array _ _ => true | _ => false) = true) (hi : (P.info? ty).map (·.size) = some cs.size) :
    (results fn tmps).run P w = .ok (.tuple #[.agg cs, tmps.getD t undef, tmps.getD u undef]) w := by
  have hp' : tmps[p]?.getD undef = .pointer (some ⟨g, 0, none⟩) := by simpa using hp
  simp [results, h, hp', asAddr, run_loadVar_row w g tt ty cs fr d hg hu hd hi]
theorem setCell_new {w : World} {g : Nat} {x v : Value} {t : TypeId} (h : w.heap[g]? = some (.cells #[x] t (0, 0))) : (w.setCell ⟨g, 0, none⟩ v).heap[g]? = some (.cells #[v] t (0, 0)) := by
  rw [heap_setCell_same _ _ 0 _ _ _ h]; rfl
theorem tree_wrong {l : List E} (h : treeB l = true) : (wrongE l 60 8000).1 = 0 := eq_of_beq h
theorem tree_not {l : List E} (h : treeB l = false) : (wrongE l 60 8000).1 ≠ 0 := fun e => by rw [treeB, e] at h; cases h
theorem wrong_small (l : List E) : (wrongE l 60 8000).1 ≤ 4 := by
  unfold wrongE
  split
  · exact (by decide : 1 ≤ 4)
  · split
    · exact (by decide : 2 ≤ 4)
    · split
      · exact (by decide : 3 ≤ 4)
      · split
        · exact (by decide : 4 ≤ 4)
        · exact (by decide : 0 ≤ 4)
theorem wrong_at (l : List E) (h : treeB l = true) : (wrongE l 60 8000).2 = 0 := by
  have h0 := tree_wrong h
  unfold wrongE at h0 ⊢
  split at h0
  · cases h0
  · rename_i h1
    rw [if_neg h1]
    split at h0
    · cases h0
    · rename_i h2
      rw [if_neg h2]
      split at h0
      · cases h0
      · rename_i h3
        rw [if_neg h3]
        split at h0
        · cases h0
        · rename_i h4
          rw [if_neg h4]
set_option maxRecDepth 8000 in
set_option maxHeartbeats 1000000 in
theorem of_good (l : List E) (hft : FitE l) (ao : Option Addr) (cap : Nat) (w : World) (hat : LiesE w ao l) (hT : treeB l = true) :
    Calls Tryz.prog 8 #[.slice ao l.length cap] w fun r w' => ∃ s k c, r = .returned (.tuple #[.agg #[.slice s k c], .int .i64 0, .int .i64 0]) ∧ TreeAt w' (fun b => w.heap.size ≤ b) 7 (.slice s k c) [] (sortE l) ∧ Below w.heap.size w w' := by
  have hTP := treeP_of hT
  have hll := hTP.len
  have HAT := toHid hat
  have HCK : Hid (∀ w1, LiesE w1 ao l → Calls Tryz.prog 16 #[.slice ao l.length cap, .agg #[.int .i64 60, .int .i64 8000]] w1 fun r w' => r = .returned (.tuple #[.int .i64 0, .int .i64 0]) ∧ Below w1.heap.size w1 w') := fun w1 h => by
    have := tCheck_any l (by omega) 60 8000 (by omega) (by omega) hft ao cap w1 h
    rw [tree_wrong hT, wrong_at l hT] at this
    exact this
  have HBL : Hid (∀ w1, LiesE w1 ao l → Calls Tryz.prog 17 #[.slice ao l.length cap, .string ⟨#[]⟩] w1 fun r w' => ∃ s k c m, r = .returned (.agg #[.slice s k c]) ∧ TreeAt w' (fun b => w1.heap.size ≤ b) 7 (.slice s k c) (aheadP []) m ∧ FP l 7 [] m ∧ Below w1.heap.size w1 w') := fun w1 h => below_any l hTP hft ao cap 6 [] w1 (by rw [nm_nil]; rfl) h
  have HTP := toHid hTP
  obtain ⟨n, HN⟩ := hid_intro l.length
  rw [← HN.out] at hll HCK HBL ⊢
  clear hat hft hT hTP
  have hb0 : Below w.heap.size w (w.alloc (.cells #[.slice none 0 0] 37 (0, 0))) := (Below.refl _ w).alloc (Nat.le_refl _) _
  have HB0 := toHid hb0
  have HR0 := toHid (heap_alloc_new w (.cells #[.slice none 0 0] 37 (0, 0)))
  clear hb0
  go_enter Tryz.func8, Tryz.ntmps8
  go_wp2_with (first
    | (go_at_call 16; refine (HCK.out _ (HAT.out.below HB0.out)).mono ?_; clear HCK; rintro e1 w1 ⟨rfl, hb1⟩; have HW1 : Hid (Below (w.heap.size + 1) (w.alloc (.cells #[.slice none 0 0] 37 (0, 0))) w1) := (show Below (w.heap.size + 1) _ w1 by simpa using hb1); clear hb1)
    | (go_at_call 17; refine (HBL.out _ (HAT.out.below (HB0.out.trans (HW1.out.mono (by omega))))).mono ?_; clear HBL; rintro e2 w2 ⟨s, k, c, m, rfl, ht, hf, hb2⟩; have HT2 := toHid ht; have HF2 := toHid hf; have HW2 := toHid hb2; clear ht hf hb2; have HR2 : Hid (w2.heap[w.heap.size]? = some (.cells #[.slice none 0 0] 37 (0, 0))) := ((HW2.out.block w.heap.size (by have := HW1.out.size; simp at this; omega)).trans (HW1.out.block w.heap.size (by omega))).trans HR0.out; have q0 : w2.cell? ⟨w.heap.size, 0, none⟩ = some (.slice none 0 0) := (cell_of_row w2 _ 0 _ _ _ HR2.out).trans rfl; have f0 : w2.frozen? ⟨w.heap.size, 0, none⟩ = false := frozen_of_row w2 _ _ _ _ HR2.out))
  refine bodyPost_ret_by (v := .tuple #[.agg #[.slice s k c], .int .i64 0, .int .i64 0]) (rowTmp2 Tryz.results8 _ _ w.heap.size 37 _ (0, 0) _ rfl (setCell_new HR2.out) Tryz.underlying37 rfl sizeTree) rfl ⟨s, k, c, rfl, ?_, ?_⟩
  · rw [← HF2.out.is_sort HTP.out]
    have hsz := HW1.out.size
    simp at hsz
    exact HT2.out.keep (by simp [World.setCell]) fun b _ hb => ⟨Below.heap_setCell _ _ _ _ (by show b ≠ w.heap.size; omega), by omega⟩
  · exact ((HB0.out.trans (HW1.out.mono (by omega))).trans (HW2.out.mono (by have := HW1.out.size; simp at this; omega))).setCell (Nat.le_refl _) _
set_option maxRecDepth 8000 in
set_option maxHeartbeats 1000000 in
theorem of_bad (l : List E) (hl : l.length ≤ 1048576) (hft : FitE l) (ao : Option Addr) (cap : Nat) (w : World) (hat : LiesE w ao l) (hT : treeB l = false) :
    Calls Tryz.prog 8 #[.slice ao l.length cap] w fun r w' => ∃ x y : Nat, x ≠ 0 ∧ r = .returned (.tuple #[.agg #[.slice none 0 0], .int .i64 x, .int .i64 y]) ∧ Below w.heap.size w w' := by
  have HAT := toHid hat
  have hx := tree_not hT
  have hx4 := wrong_small l
  have HCK : Hid (∀ w1, LiesE w1 ao l → Calls Tryz.prog 16 #[.slice ao l.length cap, .agg #[.int .i64 60, .int .i64 8000]] w1 fun r w' => r = .returned (.tuple #[.int .i64 ((wrongE l 60 8000).1 : Int), .int .i64 ((wrongE l 60 8000).2 : Int)]) ∧ Below w1.heap.size w1 w') := fun w1 h => tCheck_any l hl 60 8000 (by omega) (by omega) hft ao cap w1 h
  obtain ⟨x, HX⟩ := hid_intro (wrongE l 60 8000).1
  obtain ⟨y, HY⟩ := hid_intro (wrongE l 60 8000).2
  rw [← HX.out, ← HY.out] at HCK
  rw [← HX.out] at hx hx4
  obtain ⟨n, HN⟩ := hid_intro l.length
  rw [← HN.out] at hl HCK ⊢
  clear hat hft hT
  have hb0 : Below w.heap.size w (w.alloc (.cells #[.slice none 0 0] 37 (0, 0))) := (Below.refl _ w).alloc (Nat.le_refl _) _
  have HB0 := toHid hb0
  have HR0 := toHid (heap_alloc_new w (.cells #[.slice none 0 0] 37 (0, 0)))
  clear hb0
  go_enter Tryz.func8, Tryz.ntmps8
  go_wp2_with (first
    | (go_at_call 16; refine (HCK.out _ (HAT.out.below HB0.out)).mono ?_; clear HCK; rintro e1 w1 ⟨rfl, hb1⟩; have HW1 : Hid (Below (w.heap.size + 1) (w.alloc (.cells #[.slice none 0 0] 37 (0, 0))) w1) := (show Below (w.heap.size + 1) _ w1 by simpa using hb1); clear hb1; have HR2 : Hid (w1.heap[w.heap.size]? = some (.cells #[.slice none 0 0] 37 (0, 0))) := (HW1.out.block w.heap.size (by omega)).trans HR0.out; have q0 : w1.cell? ⟨w.heap.size, 0, none⟩ = some (.slice none 0 0) := (cell_of_row w1 _ 0 _ _ _ HR2.out).trans rfl; have f0 : w1.frozen? ⟨w.heap.size, 0, none⟩ = false := frozen_of_row w1 _ _ _ _ HR2.out))
  refine bodyPost_ret_by (v := .tuple #[.agg #[.slice none 0 0], .int .i64 x, .int .i64 y]) (rowTmp2 Tryz.results8 _ _ w.heap.size 37 _ (0, 0) _ rfl (setCell_new HR2.out) Tryz.underlying37 rfl sizeTree) rfl ⟨x, y, hx, rfl, ?_⟩
  exact (HB0.out.trans (HW1.out.mono (by omega))).setCell (Nat.le_refl _) _
end Go.Proofs.YtgfbbcnnmoamnaaGreatDoor.Tr

namespace Go.Proofs.YtgfbbcnnmoamnaaGreatDoor.Tr
open Go.RowKit Go.Proofs.YtgfbbcnnmoamnaaGreatDoor Go.Proofs.YtgfbbcnnmoamnaaGreatDoor.Lk

theorem trim_head (r : List UInt8) : Lib.trimPrefix (headB ++ r) headB = r := by
  have : Lib.hasPrefix (headB ++ r) headB = true := by simp [Lib.hasPrefix]
  rw [Lib.trimPrefix, this, if_pos rfl, List.drop_left]
theorem told_read {s : List UInt8} {m : List E} (h : Told s m) : readE (Lib.trimPrefix s headB) [] = some m := by
  obtain ⟨h1, h2, h3⟩ := h
  rw [← h3, serE, trim_head]
  exact readE_body m _ fun e he => (tree_plain h1 e he).1
theorem ref_none {s : List UInt8} (h : readE (Lib.trimPrefix s headB) [] = none) : refA s = none := by
  cases hr : refA s with
  | none => rfl
  | some m => have := told_read (refA_some hr); rw [h] at this; cases this
theorem ref_bad {s : List UInt8} {l : List E} (h : readE (Lib.trimPrefix s headB) [] = some l) (ht : treeB l = false) : refA s = none := by
  cases hr : refA s with
  | none => rfl
  | some m =>
    have h1 := refA_some hr
    have := told_read h1
    rw [h] at this
    injection this with this
    rw [this, h1.1] at ht
    cases ht
theorem ref_unlike {s : List UInt8} {l : List E} (h : readE (Lib.trimPrefix s headB) [] = some l) (hs : serE (sortE l) ≠ s) : refA s = none := by
  cases hr : refA s with
  | none => rfl
  | some m =>
    have h1 := refA_some hr
    have := told_read h1
    rw [h] at this
    injection this with this
    rw [this, h1.2.1] at hs
    exact absurd h1.2.2 hs
theorem ref_is {s : List UInt8} {l : List E} (ht : treeB l = true) (hs : serE (sortE l) = s) : refA s = some (sortE l) :=
  refA_told ⟨tree_sort ht, sortE_sortE l, hs⟩
theorem fit_sort {l : List E} (h : FitE l) : FitE (sortE l) := fun e he => h e ((sortE_perm l).mem_iff.1 he)
theorem len_sort (l : List E) : (sortE l).length = l.length := (sortE_perm l).length_eq
/-- what is answered -/
def FsOk (s : List UInt8) (w : World) (r : Ending) (w' : World) : Prop :=
  ∃ t k c, r = .returned (.tuple #[.agg #[.slice t k c], .bool (refA s).isSome]) ∧ TreeAt w' (fun b => w.heap.size ≤ b) 7 (.slice t k c) [] ((refA s).getD []) ∧ Below w.heap.size w w'
set_option maxRecDepth 8000 in
set_option maxHeartbeats 1000000 in
theorem fromSeries_any (s : List UInt8) (hs : s.length ≤ 1048576) (w : World) (hN : NumErrs w) (hP : Pow w) : Calls Tryz.prog 38 #[.string ⟨s.toArray⟩] w (FsOk s w) := by
  have HN := toHid hN
  have HP := toHid hP
  have hb0 : Below w.heap.size w (w.alloc (.cells #[.slice none 0 0] 37 (0, 0))) := (Below.refl _ w).alloc (Nat.le_refl _) _
  have HB0 := toHid hb0
  have HR0 := toHid (heap_alloc_new w (.cells #[.slice none 0 0] 37 (0, 0)))
  have HTR : Hid (∀ w1, Calls Tryz.prog 106 #[.string ⟨s.toArray⟩, .string ⟨#[98, 105, 110, 100, 101, 114, 121, 32, 49, 10]⟩] w1 fun e w' => e = .returned (.string ⟨(Lib.trimPrefix s headB).toArray⟩) ∧ w' = w1) := fun w1 => Tryz.strings_TrimPrefix ⟨s.toArray⟩ ⟨#[98, 105, 110, 100, 101, 114, 121, 32, 49, 10]⟩ w1
  have hsl : (Lib.trimPrefix s headB).length ≤ s.length := by
    unfold Lib.trimPrefix
    split <;> simp
  have HRE := toHid (fun w1 h => readEntries_any (Lib.trimPrefix s headB) (by omega) w1 h)
  have HNO := toHid (fun h => ref_none (s := s) h)
  have HBA := toHid (fun l h ht => ref_bad (s := s) (l := l) h ht)
  have HUN := toHid (fun l h ht => ref_unlike (s := s) (l := l) h ht)
  obtain ⟨s', HS'⟩ := hid_intro (Lib.trimPrefix s headB)
  rw [← HS'.out] at HTR hsl HRE HNO HBA HUN
  clear hb0 hN hP
  cases hr : readE s' [] with
  | none =>
    have HF := toHid (HNO.out hr)
    rw [hr] at HRE
    clear HNO HBA HUN hr
    go_enter Tryz.func38, Tryz.ntmps38
    go_wp2_with (first
      | (go_at_call 106; refine (HTR.out _).mono ?_; clear HTR; rintro e1 w1 ⟨rfl, hw1⟩; rw [hw1]; clear hw1)
      | (go_at_call 105; refine (HRE.out _ (HN.out.below HB0.out)).mono ?_; clear HRE; rintro e2 w2 ⟨v, rfl, ho, hf, hll, hb2⟩; obtain ⟨ao, cap, rfl⟩ := own_shape ho; have HW2 := toHid hb2; clear ho hf hll hb2; have HR2 : Hid (w2.heap[w.heap.size]? = some (.cells #[.slice none 0 0] 37 (0, 0))) := (HW2.out.block w.heap.size (by simp)).trans HR0.out; have q0 : w2.cell? ⟨w.heap.size, 0, none⟩ = some (.slice none 0 0) := (cell_of_row w2 _ 0 _ _ _ HR2.out).trans rfl; have f0 : w2.frozen? ⟨w.heap.size, 0, none⟩ = false := frozen_of_row w2 _ _ _ _ HR2.out))
    refine bodyPost_ret_by (v := .tuple #[.agg #[.slice none 0 0], .bool false]) (rowTmp Tryz.results38 _ _ w.heap.size 37 _ (0, 0) _ rfl (setCell_new HR2.out) Tryz.underlying37 rfl sizeTree) rfl ⟨none, 0, 0, by rw [HF.out]; rfl, by rw [HF.out]; exact TreeAt.nil _ _ _ _, (HB0.out.trans (HW2.out.mono (by simp))).setCell (Nat.le_refl _) _⟩
  | some l =>
    rw [hr] at HRE
    have HR := toHid hr
    clear hr HNO
    cases ht : treeB l with
    | false =>
      have HF := toHid (HBA.out l HR.out ht)
      have HT := toHid ht
      clear HBA HUN ht
      go_enter Tryz.func38, Tryz.ntmps38
      go_wp2_with (first
        | (go_at_call 106; refine (HTR.out _).mono ?_; clear HTR; rintro e1 w1 ⟨rfl, hw1⟩; rw [hw1]; clear hw1)
        | (go_at_call 105; refine (HRE.out _ (HN.out.below HB0.out)).mono ?_; clear HRE; rintro e2 w2 ⟨v, rfl, ho, hf, hll, hb2⟩; obtain ⟨ao, cap, rfl, hlie⟩ := own_lies ho; have HW2 := toHid hb2; have HOF := toHid (of_bad l (Nat.le_trans hll (Nat.le_trans hsl hs)) hf ao cap w2 hlie HT.out); clear ho hf hll hb2 hlie)
        | (go_at_call 8; refine HOF.out.mono ?_; clear HOF; rintro e3 w3 ⟨x, y, hx, rfl, hb3⟩; have HW3 := toHid hb3; clear hb3; have hxn : ((x : Int) != 0) = true := bne_iff_ne.2 (by omega); have HL3 : Hid (w.heap.size < w3.heap.size) := (show w.heap.size < w3.heap.size by have := HW2.out.size; have := HW3.out.size; simp at *; omega); have HR2 : Hid ((w3.alloc (.cells #[.slice none 0 0] 37 (0, 0))).heap[w.heap.size]? = some (.cells #[.slice none 0 0] 37 (0, 0))) := alloc_keeps (((HW3.out.block w.heap.size (by have := HW2.out.size; simp at this; omega)).trans (HW2.out.block w.heap.size (by simp))).trans HR0.out); have q0 : (w3.alloc (.cells #[.slice none 0 0] 37 (0, 0))).cell? ⟨w.heap.size, 0, none⟩ = some (.slice none 0 0) := (cell_of_row _ _ 0 _ _ _ HR2.out).trans rfl; have f0 : (w3.alloc (.cells #[.slice none 0 0] 37 (0, 0))).frozen? ⟨w.heap.size, 0, none⟩ = false := frozen_of_row _ _ _ _ _ HR2.out))
      refine bodyPost_ret_by (v := .tuple #[.agg #[.slice none 0 0], .bool false]) (rowTmp Tryz.results38 _ _ w.heap.size 37 _ (0, 0) _ rfl (setCell_new HR2.out) Tryz.underlying37 rfl sizeTree) rfl ⟨none, 0, 0, by rw [HF.out]; rfl, by rw [HF.out]; exact TreeAt.nil _ _ _ _, ?_⟩
      exact (((HB0.out.trans (HW2.out.mono (by simp))).trans (HW3.out.mono (by have := HW2.out.size; simp at this; omega))).alloc (by have := HL3.out; omega) _).setCell (Nat.le_refl _) _
    | true =>
      have HT := toHid ht
      have HIS := toHid (fun h => ref_is (s := s) ht h)
      have HUL := toHid (HUN.out l HR.out)
      clear HBA HUN ht
      by_cases heq : serE (sortE l) = s
      · have HF := toHid (HIS.out heq)
        have HSE := toHid heq
        clear HIS HUL heq
        have hss : (s == s) = true := beq_self_eq_true s
        go_enter Tryz.func38, Tryz.ntmps38
        go_wp2_with (first
          | (go_at_call 106; refine (HTR.out _).mono ?_; clear HTR; rintro e1 w1 ⟨rfl, hw1⟩; rw [hw1]; clear hw1)
          | (go_at_call 105; refine (HRE.out _ (HN.out.below HB0.out)).mono ?_; clear HRE; rintro e2 w2 ⟨v, rfl, ho, hf, hll, hb2⟩; obtain ⟨ao, cap, rfl, hlie⟩ := own_lies ho; have HW2 := toHid hb2; have HFT := toHid hf; have HLL : Hid (l.length ≤ 1048576) := Nat.le_trans hll (Nat.le_trans hsl hs); have HOF := toHid (of_good l hf ao cap w2 hlie HT.out); clear ho hf hll hb2 hlie)
          | (go_at_call 8; refine HOF.out.mono ?_; clear HOF; rintro e3 w3 ⟨t, k, c, rfl, ht3, hb3⟩; have HW3 := toHid hb3; have HT3 := toHid ht3; clear hb3 ht3; have HL3 : Hid (w.heap.size < w3.heap.size) := (show w.heap.size < w3.heap.size by have := HW2.out.size; have := HW3.out.size; simp at *; omega); have HR3 : Hid ((w3.alloc (.cells #[.slice t k c] 37 (0, 0))).heap[w.heap.size]? = some (.cells #[.slice none 0 0] 37 (0, 0))) := alloc_keeps (((HW3.out.block w.heap.size (by have := HW2.out.size; simp at this; omega)).trans (HW2.out.block w.heap.size (by simp))).trans HR0.out); have HB3 : Hid (Below w.heap.size w (w3.alloc (.cells #[.slice t k c] 37 (0, 0)))) := ((HB0.out.trans (HW2.out.mono (by simp))).trans (HW3.out.mono (by have := HW2.out.size; simp at this; omega))).alloc (by have := HL3.out; omega) _; have HSR := toHid (series_any 7 _ _ t k c (sortE l) (HT3.out.below ((Below.refl _ w3).alloc (Nat.le_refl _) (.cells #[.slice t k c] 37 (0, 0)))) (by rw [len_sort]; exact HLL.out) (fit_sort HFT.out) (HP.out.below HB3.out)); rw [HSE.out] at HSR)
          | (go_at_call 10; refine HSR.out.mono ?_; clear HSR; rintro e4 w4 ⟨rfl, hb4⟩; have HW4 := toHid hb4; clear hb4; have HR4 : Hid (w4.heap[w.heap.size]? = some (.cells #[.slice none 0 0] 37 (0, 0))) := (HW4.out.block w.heap.size (by simp; have := HL3.out; omega)).trans HR3.out; have q0 : w4.cell? ⟨w.heap.size, 0, none⟩ = some (.slice none 0 0) := (cell_of_row _ _ 0 _ _ _ HR4.out).trans rfl; have f0 : w4.frozen? ⟨w.heap.size, 0, none⟩ = false := frozen_of_row _ _ _ _ _ HR4.out; have t0 : w4.cell? ⟨w3.heap.size, 0, none⟩ = some (.slice t k c) := (HW4.out.cell (p := ⟨w3.heap.size, 0, none⟩) (by simp)).trans ((cell_of_row _ _ 0 _ _ _ (heap_alloc_new w3 _)).trans rfl)))
        refine bodyPost_ret_by (v := .tuple #[.agg #[.slice t k c], .bool true]) (rowTmp Tryz.results38 _ _ w.heap.size 37 _ (0, 0) _ rfl (setCell_new HR4.out) Tryz.underlying37 rfl sizeTree) rfl ⟨t, k, c, by rw [HF.out]; rfl, ?_, ?_⟩
        · rw [HF.out]
          have hsz := HW2.out.size
          have hs4 := HW4.out.size
          simp at hsz hs4
          exact HT3.out.keep (by simp [World.setCell]; omega) fun b hb hlt => ⟨(Below.heap_setCell _ _ _ _ (by show b ≠ w.heap.size; omega)).trans ((HW4.out.block b (by simp; omega)).trans (((Below.refl _ w3).alloc (Nat.le_refl _) _).block b hb)), by omega⟩
        · exact (HB3.out.trans (HW4.out.mono (by simp; have := HL3.out; omega))).setCell (Nat.le_refl _) _
      · have HF := toHid (HUL.out heq)
        obtain ⟨X, HX⟩ := hid_intro (serE (sortE l))
        have hne : (X == s) = false := by rw [HX.out]; exact beq_eq_false_iff_ne.2 heq
        clear HIS HUL heq
        go_enter Tryz.func38, Tryz.ntmps38
        go_wp2_with (first
          | (go_at_call 106; refine (HTR.out _).mono ?_; clear HTR; rintro e1 w1 ⟨rfl, hw1⟩; rw [hw1]; clear hw1)
          | (go_at_call 105; refine (HRE.out _ (HN.out.below HB0.out)).mono ?_; clear HRE; rintro e2 w2 ⟨v, rfl, ho, hf, hll, hb2⟩; obtain ⟨ao, cap, rfl, hlie⟩ := own_lies ho; have HW2 := toHid hb2; have HFT := toHid hf; have HLL : Hid (l.length ≤ 1048576) := Nat.le_trans hll (Nat.le_trans hsl hs); have HOF := toHid (of_good l hf ao cap w2 hlie HT.out); clear ho hf hll hb2 hlie)
          | (go_at_call 8; refine HOF.out.mono ?_; clear HOF; rintro e3 w3 ⟨t, k, c, rfl, ht3, hb3⟩; have HW3 := toHid hb3; have HT3 := toHid ht3; clear hb3 ht3; have HL3 : Hid (w.heap.size < w3.heap.size) := (show w.heap.size < w3.heap.size by have := HW2.out.size; have := HW3.out.size; simp at *; omega); have HR3 : Hid ((w3.alloc (.cells #[.slice t k c] 37 (0, 0))).heap[w.heap.size]? = some (.cells #[.slice none 0 0] 37 (0, 0))) := alloc_keeps (((HW3.out.block w.heap.size (by have := HW2.out.size; simp at this; omega)).trans (HW2.out.block w.heap.size (by simp))).trans HR0.out); have HB3 : Hid (Below w.heap.size w (w3.alloc (.cells #[.slice t k c] 37 (0, 0)))) := ((HB0.out.trans (HW2.out.mono (by simp))).trans (HW3.out.mono (by have := HW2.out.size; simp at this; omega))).alloc (by have := HL3.out; omega) _; have HSR := toHid (series_any 7 _ _ t k c (sortE l) (HT3.out.below ((Below.refl _ w3).alloc (Nat.le_refl _) (.cells #[.slice t k c] 37 (0, 0)))) (by rw [len_sort]; exact HLL.out) (fit_sort HFT.out) (HP.out.below HB3.out)); rw [← HX.out] at HSR)
          | (go_at_call 10; refine HSR.out.mono ?_; clear HSR; rintro e4 w4 ⟨rfl, hb4⟩; have HW4 := toHid hb4; clear hb4; have HR4 : Hid (w4.heap[w.heap.size]? = some (.cells #[.slice none 0 0] 37 (0, 0))) := (HW4.out.block w.heap.size (by simp; have := HL3.out; omega)).trans HR3.out; have q0 : w4.cell? ⟨w.heap.size, 0, none⟩ = some (.slice none 0 0) := (cell_of_row _ _ 0 _ _ _ HR4.out).trans rfl; have f0 : w4.frozen? ⟨w.heap.size, 0, none⟩ = false := frozen_of_row _ _ _ _ _ HR4.out; have t0 : w4.cell? ⟨w3.heap.size, 0, none⟩ = some (.slice t k c) := (HW4.out.cell (p := ⟨w3.heap.size, 0, none⟩) (by simp)).trans ((cell_of_row _ _ 0 _ _ _ (heap_alloc_new w3 _)).trans rfl)))
        refine bodyPost_ret_by (v := .tuple #[.agg #[.slice none 0 0], .bool false]) (rowTmp Tryz.results38 _ _ w.heap.size 37 _ (0, 0) _ rfl (setCell_new HR4.out) Tryz.underlying37 rfl sizeTree) rfl ⟨none, 0, 0, by rw [HF.out]; rfl, by rw [HF.out]; exact TreeAt.nil _ _ _ _, ?_⟩
        exact (HB3.out.trans (HW4.out.mono (by simp; have := HL3.out; omega))).setCell (Nat.le_refl _) _
end Go.Proofs.YtgfbbcnnmoamnaaGreatDoor.Tr
