/- What (*strings.Builder)'s WriteByte, WriteString, Grow and String do at this program, one application of the library's contract each, by hand-laid numberings. The program writes a lock file. -/
import Derived.Shelf.Strings.Builder1
import Derived.Shelf.Strings.Builder2
import Derived.Shelf.Strings.BuilderK
import Derived.Test.YtjngbcbkapjkhaaGreatDoorProg
import Derived.Test.YtjngbcbkapjkhaaGreatDoorLkPure
import Derived.Test.YtjngbcbkapjkhaaGreatDoorMid
namespace Go.Proofs
open Go.Shelf
def Tryz.lays169_ren : Go.Shelf.Ren := ⟨fun | 169 => 98 | n => n, fun | 0 => 0 | 3 => 3 | 5 => 5 | 9 => 9 | 37 => 109 | 70 => 141 | 72 => 143 | 127 => 223 | n => n, fun | n => n⟩
theorem Tryz.lays169 : Go.Proofs.Lays.n169 Tryz.prog Tryz.lays169_ren := {
  mixed := by kernel_rfl
  f169 := Tryz.func98.trans (congrArg some (by kernel_rfl))
  t0 := Tryz.underlying0
  a0 := Tryz.isAgg0
  z0 := Tryz.sizeOf0
  v0 := Tryz.zeroValue0
  t3 := Tryz.underlying3
  a3 := Tryz.isAgg3
  z3 := Tryz.sizeOf3
  v3 := Tryz.zeroValue3
  t9 := Tryz.underlying9
  a9 := Tryz.isAgg9
  z9 := Tryz.sizeOf9
  v9 := Tryz.zeroValue9
  t37 := Tryz.underlying109
  a37 := Tryz.isAgg109
  z37 := Tryz.sizeOf109
  v37 := Tryz.zeroValue109
  t70 := Tryz.underlying141
  a70 := Tryz.isAgg141
  z70 := Tryz.sizeOf141
  v70 := Tryz.zeroValue141
  t72 := Tryz.underlying143
  a72 := Tryz.isAgg143
  z72 := Tryz.sizeOf143
  v72 := Tryz.zeroValue143
  t127 := Tryz.underlying223
  a127 := Tryz.isAgg223
  z127 := Tryz.sizeOf223
  v127 := Tryz.zeroValue223 }
theorem Tryz.Builder_Extra_169 : Builder.Extra Tryz.prog Tryz.lays169_ren := {
  sizeBuilder := by kernel_rfl
  liesBuilder := by kernel_rfl
  t5 := Tryz.underlying5
  a5 := Tryz.isAgg5
  z5 := Tryz.sizeOf5
  v5 := Tryz.zeroValue5
  infoByte := by kernel_rfl
  cellsByte := by kernel_rfl
  sizeByte := by kernel_rfl
  neB5 := by decide }
def Tryz.lays165_ren : Go.Shelf.Ren := ⟨fun | 165 => 96 | 240 => 144 | 241 => 145 | 276 => 216 | 277 => 217 | n => n, fun | 0 => 0 | 3 => 3 | 4 => 4 | 5 => 5 | 9 => 9 | 20 => 20 | 37 => 109 | 70 => 141 | 72 => 143 | 164 => 240 | n => n, fun | n => n⟩
theorem Tryz.lays165 : Go.Proofs.Lays.n165 Tryz.prog Tryz.lays165_ren := {
  mixed := by kernel_rfl
  f165 := Tryz.func96.trans (congrArg some (by kernel_rfl))
  f240 := Tryz.func144.trans (congrArg some (by kernel_rfl))
  f241 := Tryz.func145.trans (congrArg some (by kernel_rfl))
  f276 := Tryz.func216.trans (congrArg some (by kernel_rfl))
  f277 := Tryz.func217.trans (congrArg some (by kernel_rfl))
  t0 := Tryz.underlying0
  a0 := Tryz.isAgg0
  z0 := Tryz.sizeOf0
  v0 := Tryz.zeroValue0
  t3 := Tryz.underlying3
  a3 := Tryz.isAgg3
  z3 := Tryz.sizeOf3
  v3 := Tryz.zeroValue3
  t4 := Tryz.underlying4
  a4 := Tryz.isAgg4
  z4 := Tryz.sizeOf4
  v4 := Tryz.zeroValue4
  t9 := Tryz.underlying9
  a9 := Tryz.isAgg9
  z9 := Tryz.sizeOf9
  v9 := Tryz.zeroValue9
  t20 := Tryz.underlying20
  a20 := Tryz.isAgg20
  z20 := Tryz.sizeOf20
  v20 := Tryz.zeroValue20
  t37 := Tryz.underlying109
  a37 := Tryz.isAgg109
  z37 := Tryz.sizeOf109
  v37 := Tryz.zeroValue109
  t70 := Tryz.underlying141
  a70 := Tryz.isAgg141
  z70 := Tryz.sizeOf141
  v70 := Tryz.zeroValue141
  t72 := Tryz.underlying143
  a72 := Tryz.isAgg143
  z72 := Tryz.sizeOf143
  v72 := Tryz.zeroValue143
  t164 := Tryz.underlying240
  a164 := Tryz.isAgg240
  z164 := Tryz.sizeOf240
  v164 := Tryz.zeroValue240 }
theorem Tryz.Builder_Extra_165 : Builder.Extra Tryz.prog Tryz.lays165_ren := {
  sizeBuilder := by kernel_rfl
  liesBuilder := by kernel_rfl
  t5 := Tryz.underlying5
  a5 := Tryz.isAgg5
  z5 := Tryz.sizeOf5
  v5 := Tryz.zeroValue5
  infoByte := by kernel_rfl
  cellsByte := by kernel_rfl
  sizeByte := by kernel_rfl
  neB5 := by decide }
def Tryz.lays167_ren : Go.Shelf.Ren := ⟨fun | 167 => 97 | 240 => 144 | 276 => 216 | n => n, fun | 0 => 0 | 4 => 4 | 5 => 5 | 9 => 9 | 20 => 20 | 37 => 109 | 70 => 141 | 72 => 143 | 75 => 104 | 80 => 123 | 164 => 240 | n => n, fun | n => n⟩
theorem Tryz.lays167 : Go.Proofs.Lays.n167 Tryz.prog Tryz.lays167_ren := {
  mixed := by kernel_rfl
  f167 := Tryz.func97.trans (congrArg some (by kernel_rfl))
  f240 := Tryz.func144.trans (congrArg some (by kernel_rfl))
  f276 := Tryz.func216.trans (congrArg some (by kernel_rfl))
  t0 := Tryz.underlying0
  a0 := Tryz.isAgg0
  z0 := Tryz.sizeOf0
  v0 := Tryz.zeroValue0
  t4 := Tryz.underlying4
  a4 := Tryz.isAgg4
  z4 := Tryz.sizeOf4
  v4 := Tryz.zeroValue4
  t5 := Tryz.underlying5
  a5 := Tryz.isAgg5
  z5 := Tryz.sizeOf5
  v5 := Tryz.zeroValue5
  t9 := Tryz.underlying9
  a9 := Tryz.isAgg9
  z9 := Tryz.sizeOf9
  v9 := Tryz.zeroValue9
  t20 := Tryz.underlying20
  a20 := Tryz.isAgg20
  z20 := Tryz.sizeOf20
  v20 := Tryz.zeroValue20
  t37 := Tryz.underlying109
  a37 := Tryz.isAgg109
  z37 := Tryz.sizeOf109
  v37 := Tryz.zeroValue109
  t70 := Tryz.underlying141
  a70 := Tryz.isAgg141
  z70 := Tryz.sizeOf141
  v70 := Tryz.zeroValue141
  t72 := Tryz.underlying143
  a72 := Tryz.isAgg143
  z72 := Tryz.sizeOf143
  v72 := Tryz.zeroValue143
  t75 := Tryz.underlying104
  a75 := Tryz.isAgg104
  z75 := Tryz.sizeOf104
  v75 := Tryz.zeroValue104
  t164 := Tryz.underlying240
  a164 := Tryz.isAgg240
  z164 := Tryz.sizeOf240
  v164 := Tryz.zeroValue240 }
theorem Tryz.Builder_Extra_167 : Builder.Extra Tryz.prog Tryz.lays167_ren := {
  sizeBuilder := by kernel_rfl
  liesBuilder := by kernel_rfl
  t5 := Tryz.underlying5
  a5 := Tryz.isAgg5
  z5 := Tryz.sizeOf5
  v5 := Tryz.zeroValue5
  infoByte := by kernel_rfl
  cellsByte := by kernel_rfl
  sizeByte := by kernel_rfl
  neB5 := by decide }
def Tryz.lays166_ren : Go.Shelf.Ren := ⟨fun | 166 => 127 | 240 => 144 | 276 => 216 | n => n, fun | 0 => 0 | 3 => 3 | 4 => 4 | 5 => 5 | 9 => 9 | 20 => 20 | 37 => 109 | 70 => 141 | 72 => 143 | 75 => 104 | 80 => 123 | 164 => 240 | n => n, fun | n => n⟩
theorem Tryz.lays166 : Go.Proofs.Lays.n166 Tryz.prog Tryz.lays166_ren := {
  mixed := by kernel_rfl
  f166 := Tryz.func127.trans (congrArg some (by kernel_rfl))
  f240 := Tryz.func144.trans (congrArg some (by kernel_rfl))
  f276 := Tryz.func216.trans (congrArg some (by kernel_rfl))
  t0 := Tryz.underlying0
  a0 := Tryz.isAgg0
  z0 := Tryz.sizeOf0
  v0 := Tryz.zeroValue0
  t3 := Tryz.underlying3
  a3 := Tryz.isAgg3
  z3 := Tryz.sizeOf3
  v3 := Tryz.zeroValue3
  t4 := Tryz.underlying4
  a4 := Tryz.isAgg4
  z4 := Tryz.sizeOf4
  v4 := Tryz.zeroValue4
  t9 := Tryz.underlying9
  a9 := Tryz.isAgg9
  z9 := Tryz.sizeOf9
  v9 := Tryz.zeroValue9
  t20 := Tryz.underlying20
  a20 := Tryz.isAgg20
  z20 := Tryz.sizeOf20
  v20 := Tryz.zeroValue20
  t37 := Tryz.underlying109
  a37 := Tryz.isAgg109
  z37 := Tryz.sizeOf109
  v37 := Tryz.zeroValue109
  t70 := Tryz.underlying141
  a70 := Tryz.isAgg141
  z70 := Tryz.sizeOf141
  v70 := Tryz.zeroValue141
  t72 := Tryz.underlying143
  a72 := Tryz.isAgg143
  z72 := Tryz.sizeOf143
  v72 := Tryz.zeroValue143
  t75 := Tryz.underlying104
  a75 := Tryz.isAgg104
  z75 := Tryz.sizeOf104
  v75 := Tryz.zeroValue104
  t164 := Tryz.underlying240
  a164 := Tryz.isAgg240
  z164 := Tryz.sizeOf240
  v164 := Tryz.zeroValue240 }
theorem Tryz.Builder_Extra_166 : Builder.Extra Tryz.prog Tryz.lays166_ren := {
  sizeBuilder := by kernel_rfl
  liesBuilder := by kernel_rfl
  t5 := Tryz.underlying5
  a5 := Tryz.isAgg5
  z5 := Tryz.sizeOf5
  v5 := Tryz.zeroValue5
  infoByte := by kernel_rfl
  cellsByte := by kernel_rfl
  sizeByte := by kernel_rfl
  neB5 := by decide }
open Go.RowKit in
theorem Tryz.Builder_String_any (B b : Nat) (l : List UInt8) (w : World) (h : Lib.IsBuilderF 143 5 B b (Lib.byteCells l) w) (hBw : B ≤ w.heap.size) :
    Calls Tryz.prog 98 #[.pointer (some ⟨b, 0, none⟩)] w fun e w' => e = .returned (.string ⟨l.toArray⟩) ∧ (Lib.IsBuilderF 143 5 B b (Lib.byteCells l) w' ∧ Below B w w' ∧ Lib.OthersKept 5 (some b) w w') := Any.Builder_String_any_k Tryz.lays169 Tryz.Builder_Extra_169 B b l w h hBw
open Go.RowKit in
theorem Tryz.Builder_Grow_fresh (B b n : Nat) (w : World) (hB : B ≤ b) (hbk : w.heap[b]? = some (.cells #[.pointer none, .slice none 0 0] 143 (0, 0))) (hBw : B ≤ w.heap.size) (hn : n ≤ 281474976710656) :
    Calls Tryz.prog 96 #[.pointer (some ⟨b, 0, none⟩), .int .i64 n] w fun e w' => e = .returned (.tuple #[]) ∧ (Lib.BuilderAt 143 5 B b (.pointer (some ⟨b, 0, none⟩)) [] w' ∧ Below B w w') := Any.Builder_Grow_fresh Tryz.lays165 Tryz.Builder_Extra_165 B b n w hB hbk hBw hn
open Go.RowKit in
theorem Tryz.Builder_WriteByte (B b : Nat) (bs : List Value) (c : Int) (w : World) (h : Lib.IsBuilderF 143 5 B b bs w) (hlen : bs.length + 1 ≤ 140737488355328) (hBw : B ≤ w.heap.size) :
    Calls Tryz.prog 97 #[.pointer (some ⟨b, 0, none⟩), .int .u8 c] w fun e w' => e = .returned .nilIface ∧ (Lib.BuilderAtF 143 5 B b (.pointer (some ⟨b, 0, none⟩)) (bs ++ [.int .u8 c]) w' ∧ Below B w w' ∧ Lib.OthersKept 5 (some b) w w') := Any.Builder_WriteByte_k Tryz.lays167 Tryz.Builder_Extra_167 B b bs c w h hlen hBw
open Go.RowKit in
theorem Tryz.Builder_WriteString (B b : Nat) (bs : List Value) (s : ByteArray) (w : World) (h : Lib.IsBuilderF 143 5 B b bs w) (hlen : bs.length + s.size ≤ 140737488355328) (hBw : B ≤ w.heap.size) :
    Calls Tryz.prog 127 #[.pointer (some ⟨b, 0, none⟩), .string s] w fun e w' => e = .returned (.tuple #[.int .i64 s.size, .nilIface]) ∧ (Lib.BuilderAtF 143 5 B b (.pointer (some ⟨b, 0, none⟩)) (bs ++ Lib.strCells s) w' ∧ Below B w w' ∧ Lib.OthersKept 5 (some b) w w') := Any.Builder_WriteString_k Tryz.lays166 Tryz.Builder_Extra_166 B b bs s w h hlen hBw
end Go.Proofs

namespace Go.Proofs.YtjngbcbkapjkhaaGreatDoor.Lk
open Go.RowKit Go.Proofs.YtjngbcbkapjkhaaGreatDoor

theorem ownsRowF_keep {w w' : World} {base : Nat} {e : TypeId} {size : Nat} {v : Value} {n : Nat} {xs : List Value} (h : w.ownsRowF base e size v n xs) (hb : Below w.heap.size w w') : w'.ownsRowF base e size v n xs := by
  refine ⟨h.1, ?_⟩
  rcases h.2 with hn | ⟨g, cap, cur, fz, hv, h1, hg, rest⟩
  · exact .inl hn
  · exact .inr ⟨g, cap, cur, fz, hv, h1, (hb.block g (lt_of_block hg)).trans hg, rest⟩
theorem builder_keep {T e : TypeId} {B b : Nat} {bs : List Value} {w w' : World} (h : Lib.IsBuilderF T e B b bs w) (hb : Below w.heap.size w w') : Lib.IsBuilderF T e B b bs w' := by
  rcases h with ⟨hB, v, hbk, hown, hne⟩ | ⟨hB, v, hbk, hown, hne⟩
  · exact .inl ⟨hB, v, (hb.block b (lt_of_block hbk)).trans hbk, ownsRowF_keep hown hb, hne⟩
  · exact .inr ⟨hB, v, (hb.block b (lt_of_block hbk)).trans hbk, ownsRowF_keep hown hb, hne⟩
theorem builder_new {T e : TypeId} {w : World} : Lib.IsBuilderF T e w.heap.size w.heap.size [] (w.alloc (.cells #[.pointer none, .slice none 0 0] T (0, 0))) :=
  .inl ⟨Nat.le_refl _, _, heap_alloc_new w _, ⟨by simp, .inl ⟨rfl, rfl⟩⟩, by simp [Value.ownBlock]⟩
theorem take_snoc {l : List M} {i : Nat} {m : M} (h : l[i]? = some m) : l.take (i + 1) = l.take i ++ [m] := by
  rw [List.take_add_one, h]; rfl
theorem cat_line (m : M) : (⟨m.n.toArray⟩ ++ ⟨#[32]⟩ ++ ⟨m.v.toArray⟩ ++ ⟨#[32]⟩ ++ ⟨m.d.toArray⟩ ++ ⟨#[10]⟩ : ByteArray) = ⟨(lineOf m).toArray⟩ := by
  apply ByteArray.ext
  simp [lineOf, ByteArray.data_append]
theorem ok_sizes {m : M} (h : okM m = true) : m.n.length ≤ 16 ∧ m.v.length ≤ 16 ∧ m.d.length = 64 := by
  simp only [okM, nameB, digB, Bool.and_eq_true, decide_eq_true_eq] at h
  obtain ⟨⟨⟨⟨⟨⟨_, h1⟩, _⟩, _⟩, _⟩, ⟨⟨⟨⟨_, h2⟩, _⟩, _⟩, _⟩⟩, _, h3⟩ := h
  exact ⟨h1, h2, h3⟩
theorem printL_le {l : List M} : ∀ (i : Nat), (∀ j, j < i → okAt l j = true) → i ≤ l.length → (printL (l.take i)).length ≤ 99 * i
  | 0, _, _ => by simp [printL]
  | i + 1, h, hi => by
    obtain ⟨m, hm⟩ : ∃ m, l[i]? = some m := ⟨l[i]'(by omega), List.getElem?_eq_getElem _⟩
    have hk := okAt_ok (h i (by omega))
    rw [List.getD_eq_getElem?_getD, hm] at hk
    have h1 := okM_len hk
    have h2 := printL_le i (fun j hj => h j (by omega)) (by omega)
    rw [take_snoc hm, printL_snoc, List.length_append]
    show _ + (lineOf m).length ≤ _
    have h3 : (lineOf m).length ≤ 99 := h1
    omega
/-- what is written: nothing, if one may not be there -/
def outL (l : List M) : List UInt8 := if firstBad l = 0 then printL l else []
theorem outL_ok {l : List M} (h : firstBad l = 0) : outL l = printL l := by rw [outL, if_pos h]
theorem outL_bad {l : List M} (h : firstBad l ≠ 0) : outL l = [] := by rw [outL, if_neg h]
set_option maxRecDepth 8000 in
set_option maxHeartbeats 1000000 in
theorem lPrint_any (l : List M) (hl : l.length ≤ 1048576) (hft : Fit l) (g cap : Nat) (hcap : l.length ≤ cap) (hcap2 : cap ≤ 9223372036854775807) (w : World) (hr : Row w g l) :
    Calls Tryz.prog 80 #[.slice (some ⟨g, 0, none⟩) l.length cap] w fun r w' => r = .returned (.tuple #[.string ⟨(outL l).toArray⟩, .int .i64 (errOf (firstBad l)), .int .i64 (firstBad l : Int)]) ∧ Below w.heap.size w w' := by
  have HR : Hid (Row w g l) := hr
  have HFT : Hid (Fit l) := hft
  have hgl := hr.lt
  clear hr hft
  obtain ⟨n, HN⟩ := hid_intro l.length
  rw [← HN.out] at hl hcap ⊢
  go_enter Tryz.func80, Tryz.ntmps80
  go_wp2
  go_loopw [10] (fun vi wr => ∃ i : Nat, i ≤ n ∧ vi = .int .i64 i ∧ Hid (∀ j, j < i → okAt l j = true) ∧ Hid (Lib.IsBuilderF 143 5 w.heap.size w.heap.size (Lib.byteCells (printL (l.take i))) wr) ∧ Below w.heap.size w wr) (fun vi _ => n - (intOf vi).toNat)
  case atStart => exact ⟨0, by omega, rfl, fun j hj => by omega, builder_new, (Below.refl _ w).alloc (Nat.le_refl _) _⟩
  case round =>
    obtain ⟨i, hi, rfl, HA, HBD, hb⟩ := hrel
    have hbs := hb.size
    by_cases hlt : i < n
    · obtain ⟨m, hm⟩ : ∃ m, l[i]? = some m := ⟨l[i]'(by rw [← HN.out]; exact hlt), List.getElem?_eq_getElem _⟩
      have HM := (show Hid _ from hm)
      obtain ⟨c1, c2, c3⟩ := HR.out.at0 i m hm
      have e1 := (hb.cell (p := ⟨g, i * 3, none⟩) hgl).trans c1
      have e2 := (hb.cell (p := ⟨g, i * 3 + 1, none⟩) hgl).trans c2
      have e3 := (hb.cell (p := ⟨g, i * 3 + 2, none⟩) hgl).trans c3
      clear c1 c2 c3 hm
      have hic : i ≤ cap := by omega
      have hb0 : (wr.alloc (.cells #[.string ⟨m.n.toArray⟩, .string ⟨m.v.toArray⟩, .string ⟨m.d.toArray⟩] 25 (0, 0))).heap[wr.heap.size]? = some (.cells #[.string ⟨m.n.toArray⟩, .string ⟨m.v.toArray⟩, .string ⟨m.d.toArray⟩] 25 (0, 0)) := heap_alloc_new wr _
      have hti : (l.take i).length = i := by rw [List.length_take]; have := HN.out; omega
      have HMF := (show Hid _ from mayFollow_any (l.take i) m (.slice (some ⟨g, 0, none⟩) i cap) (wr.alloc (.cells #[.string ⟨m.n.toArray⟩, .string ⟨m.v.toArray⟩, .string ⟨m.d.toArray⟩] 25 (0, 0))).drew (by rw [hti]; omega) (.inr ⟨g, cap, by rw [hti], by
        have h1 : Row wr g l := HR.out.below hb hgl
        have h2 : Row (wr.alloc (.cells #[.string ⟨m.n.toArray⟩, .string ⟨m.v.toArray⟩, .string ⟨m.d.toArray⟩] 25 (0, 0))).drew g l := h1.below (((Below.refl _ wr).alloc (Nat.le_refl _) _).drew) h1.lt
        exact ⟨h2.lt, fun j q hj => h2.at0 j q (by
          have hjl := (List.getElem?_eq_some_iff.1 hj).1
          rw [hti] at hjl
          rwa [List.getElem?_take_of_lt hjl] at hj)⟩⟩))
      clear hti
      have hBA : Below wr.heap.size wr (wr.alloc (.cells #[.string ⟨m.n.toArray⟩, .string ⟨m.v.toArray⟩, .string ⟨m.d.toArray⟩] 25 (0, 0))).drew := ((Below.refl _ wr).alloc (Nat.le_refl _) _).drew
      have HBA : Hid (Below wr.heap.size wr (wr.alloc (.cells #[.string ⟨m.n.toArray⟩, .string ⟨m.v.toArray⟩, .string ⟨m.d.toArray⟩] 25 (0, 0))).drew) := hBA
      clear hBA
      cases hmay : mayB (l.take i) m with
      | false =>
        have HP : Hid (firstBad l = i + 1) := firstBad_at (by rw [← HN.out]; exact hlt) (by rw [okAt_of HM.out]; exact hmay) HA.out
        rw [hmay] at HMF
        clear hmay HA
        go_wp2
        refine region_mid 4 _ _ rfl rfl (by kernel_rfl) (by kernel_rfl) ?_
        simp only [List.take_succ_cons, List.take_zero]
        still_step
        still_step
        still_step
        refine wpStill_step (fun K hK => ?_)
        refine still_load_row 25 (.tmp 7) rfl wr.heap.size rfl 25 _ (0, 0) _ hb0 Tryz.underlying25 rfl sizeLocked (hK _ ?_)
        clear hK K
        repeat still_step
        refine wpStill_nil (fun K hK => ?_)
        go_simp
        refine (Calls.mono HMF.out ?_); rintro e w1 ⟨rfl, hb1⟩; have HB1 := (show Hid (Below (wr.alloc (.cells #[.string ⟨m.n.toArray⟩, .string ⟨m.v.toArray⟩, .string ⟨m.d.toArray⟩] 25 (0, 0))).drew.heap.size _ w1) from hb1); clear hb1
        refine hK _ _ ?_
        clear hK K
        repeat still_step
        refine wpStill_nil ?_
        clear HMF
        go_wp2
        go_ret3
        refine ⟨?_, hb.trans ((HBA.out.trans (HB1.out.mono (by simp))).mono hbs)⟩
        rw [outL_bad (by rw [HP.out]; omega), HP.out]
        rfl
      | true =>
        have hok : okAt l i = true := by rw [okAt_of HM.out]; exact hmay
        have HA2 : Hid (∀ j, j < i + 1 → okAt l j = true) := fun j hj => by
          by_cases e : j = i
          · rw [e]; exact hok
          · exact HA.out j (by omega)
        have hmk : okM m = true := by simp only [mayB, Bool.and_eq_true] at hmay; exact hmay.1
        obtain ⟨z1, z2, z3⟩ := ok_sizes hmk
        have hpl := printL_le (l := l) i HA.out (by rw [← HN.out]; exact hi)
        have h10 : i ≤ 1048576 := by omega
        have HT : Hid (printL (l.take (i + 1)) = printL (l.take i) ++ lineOf m) := by show _ = _; rw [take_snoc HM.out, printL_snoc]
        have HCL := (show Hid _ from cat_line m)
        have hll : (lineOf m).length ≤ 99 := okM_len hmk
        have HLL := (show Hid _ from hll)
        rw [hmay] at HMF
        clear hmay hok hmk hll HA
        obtain ⟨pl, HPL⟩ := hid_intro (printL (l.take i))
        rw [← HPL.out] at HBD HT hpl
        have y1 := size_of m.n
        have y2 := size_of m.v
        have y3 := size_of m.d
        go_wp2
        refine region_mid 4 _ _ rfl rfl (by kernel_rfl) (by kernel_rfl) ?_
        simp only [List.take_succ_cons, List.take_zero]
        still_step
        still_step
        still_step
        refine wpStill_step (fun K hK => ?_)
        refine still_load_row 25 (.tmp 7) rfl wr.heap.size rfl 25 _ (0, 0) _ hb0 Tryz.underlying25 rfl sizeLocked (hK _ ?_)
        clear hK K
        repeat still_step
        refine wpStill_nil (fun K hK => ?_)
        go_simp
        refine (Calls.mono HMF.out ?_); rintro e w1 ⟨rfl, hb1⟩; have HB1 := (show Hid (Below (wr.alloc (.cells #[.string ⟨m.n.toArray⟩, .string ⟨m.v.toArray⟩, .string ⟨m.d.toArray⟩] 25 (0, 0))).drew.heap.size _ w1) from hb1); clear hb1
        refine hK _ _ ?_
        clear hK K
        repeat still_step
        refine wpStill_nil ?_
        clear HMF
        have hq0 := (HB1.out.cell (p := ⟨wr.heap.size, 0, none⟩) (by simp)).trans (cell_three_new wr _ _ _ 25 0 _ rfl)
        have hq1 := (HB1.out.cell (p := ⟨wr.heap.size, 1, none⟩) (by simp)).trans (cell_three_new wr _ _ _ 25 1 _ rfl)
        have hq2 := (HB1.out.cell (p := ⟨wr.heap.size, 2, none⟩) (by simp)).trans (cell_three_new wr _ _ _ 25 2 _ rfl)
        have HW1 : Hid (Below wr.heap.size wr w1) := HBA.out.trans (HB1.out.mono (by simp))
        have HBD1 : Hid (Lib.IsBuilderF 143 5 w.heap.size w.heap.size (Lib.byteCells pl) w1) := builder_keep HBD.out HW1.out
        have hw1s := HW1.out.size
        have hbl : (Lib.byteCells pl).length = pl.length := by simp [Lib.byteCells]
        go_wp2_with (go_at_call 127; refine (Tryz.Builder_WriteString w.heap.size w.heap.size (Lib.byteCells pl) _ _ HBD1.out (by first | (rw [hbl]; simp only [ByteArray.size_append, y1, y2, y3]; show _ + (_ + 1 + _ + 1 + _ + 1) ≤ _; omega) | skip) (by omega)).mono ?_; rintro e w2 ⟨rfl, hbd2, hb2, _⟩; rw [HCL.out] at hbd2)
        go_roundw
        case rel =>
          refine ⟨i + 1, by omega, by go_num, HA2, ?_, hb.trans ((HW1.out.mono hbs).trans hb2)⟩
          rw [HT.out, Lib.byteCells_append]
          exact .inr hbd2
        case measure => simp [intOf]; omega
    · obtain rfl : i = n := by omega
      have HP := (show Hid _ from firstBad_none (l := l) (fun j hj => HA.out j (by rw [HN.out]; exact hj)))
      rw [show l.take i = l by rw [HN.out]; simp] at HBD
      go_wp2_with (go_at_call 98; refine (Tryz.Builder_String_any _ _ _ _ HBD.out hbs).mono ?_; rintro e w3 ⟨rfl, _, hl3, _⟩)
      go_ret3
      exact ⟨by rw [outL_ok HP.out, HP.out]; rfl, hb.trans hl3⟩
theorem lPrint_nil (w : World) : Calls Tryz.prog 80 #[.slice none 0 0] w fun r w' => r = .returned (.tuple #[.string ⟨(outL []).toArray⟩, .int .i64 (errOf (firstBad [])), .int .i64 (firstBad [] : Int)]) ∧ Below w.heap.size w w' := by
  go_enter Tryz.func80, Tryz.ntmps80
  go_wp2
  go_loopw [10] (fun vi wr => vi = .int .i64 0 ∧ wr = w.alloc (.cells #[.pointer none, .slice none 0 0] 143 (0, 0))) (fun _ _ => 0)
  case atStart => exact ⟨rfl, rfl⟩
  case round =>
    obtain ⟨rfl, hw⟩ := hrel
    rw [hw]; clear hw
    go_wp2_with (go_at_call 98; refine (Tryz.Builder_String_any w.heap.size w.heap.size [] _ builder_new (by simp)).mono ?_; rintro e w3 ⟨rfl, _, hl3, _⟩)
    go_ret3
    exact ⟨rfl, ((Below.refl _ w).alloc (Nat.le_refl _) _).trans hl3⟩
theorem bPrintLock_any (l : List M) (hl : l.length ≤ 1048576) (hft : Fit l) (v : Value) (w : World) (hv : (l = [] ∧ v = .slice none 0 0) ∨ ∃ g cap, v = .slice (some ⟨g, 0, none⟩) l.length cap ∧ l.length ≤ cap ∧ cap ≤ 9223372036854775807 ∧ Row w g l) :
    Calls Tryz.prog 40 #[v] w fun r w' => r = .returned (.tuple #[.string ⟨(outL l).toArray⟩, .int .i64 (errOf (firstBad l)), .int .i64 (firstBad l : Int)]) ∧ Below w.heap.size w w' := by
  have HC : Hid (∀ w', w' = w → Calls Tryz.prog 80 #[v] w' fun r w' => r = .returned (.tuple #[.string ⟨(outL l).toArray⟩, .int .i64 (errOf (firstBad l)), .int .i64 (firstBad l : Int)]) ∧ Below w.heap.size w w') := fun w' e => by
    rw [e]
    rcases hv with ⟨rfl, rfl⟩ | ⟨g, cap, rfl, h1, h2, hr⟩
    · exact lPrint_nil w
    · exact lPrint_any l hl hft g cap h1 h2 w hr
  clear hv
  obtain ⟨x, HX⟩ := hid_intro (outL l)
  obtain ⟨y, HY⟩ := hid_intro (errOf (firstBad l))
  obtain ⟨z, HZ⟩ := hid_intro (firstBad l)
  rw [← HX.out, ← HY.out, ← HZ.out] at HC ⊢
  go_enter Tryz.func40, Tryz.ntmps40
  go_wp2_with (go_at_call 80; refine (HC.out _ rfl).mono ?_; rintro e w3 ⟨rfl, hl3⟩)
  go_ret3
  exact ⟨rfl, hl3⟩
theorem bReadLock_any (s : ByteArray) (hs : s.size ≤ 9223372036854775807) (w : World) : Calls Tryz.prog 36 #[.string s] w fun r w' => ∃ v, r = .returned (.tuple #[v, .int .i64 (errOf (readL s.data.toList []).1), .int .i64 ((readL s.data.toList []).1 : Int)]) ∧ w'.ownsRow w.heap.size 25 3 v (readL s.data.toList []).2.length (mcells (readL s.data.toList []).2) ∧ Below w.heap.size w w' := by
  have HC := (show Hid _ from lRead_any s hs)
  obtain ⟨R, HR⟩ := hid_intro (readL s.data.toList [])
  rw [← HR.out] at HC ⊢
  obtain ⟨y, HY⟩ := hid_intro (errOf R.1)
  rw [← HY.out] at HC ⊢
  go_enter Tryz.func36, Tryz.ntmps36
  go_wp2_with (go_at_call 77; refine (HC.out _).mono ?_; rintro e w3 ⟨v3, rfl, ho3, hl3⟩)
  go_ret3
  exact ⟨v3, rfl, ho3, hl3⟩

theorem cat_step (a : List UInt8) (m : M) : (⟨a.toArray⟩ ++ ⟨m.n.toArray⟩ ++ ⟨#[32]⟩ ++ ⟨m.v.toArray⟩ ++ ⟨#[32]⟩ ++ ⟨m.d.toArray⟩ ++ ⟨#[10]⟩ : ByteArray) = ⟨(a ++ lineOf m).toArray⟩ := by
  apply ByteArray.ext
  simp [lineOf, ByteArray.data_append]
set_option maxRecDepth 8000 in
set_option maxHeartbeats 1000000 in
theorem rPrintLock_any (l : List M) (hok : AllOk l) (ao : Option Addr) (cap : Nat) (w : World) (hat : Lies w ao l) :
    Calls Tryz.prog 44 #[.slice ao l.length cap] w fun r w' => r = .returned (.string ⟨(printL l).toArray⟩) ∧ ∃ q, w' = w.drewN q := by
  have HAT : Hid (Lies w ao l) := hat
  have HOK : Hid (AllOk l) := hok
  have hl := hok.le
  clear hat hok
  obtain ⟨n, HN⟩ := hid_intro l.length
  rw [← HN.out] at hl ⊢
  go_enter Tryz.func44, Tryz.ntmps44
  go_wp2
  go_loopw [3, 4] (fun vs vi wr => ∃ i q : Nat, i ≤ n ∧ vi = .int .i64 i ∧ vs = .string ⟨(printL (l.take i)).toArray⟩ ∧ wr = w.drewN q) (fun _ vi _ => n - (intOf vi).toNat)
  case atStart => exact ⟨0, 0, by omega, rfl, by simp [printL], rfl⟩
  case round =>
    obtain ⟨i, q, hi, rfl, rfl, hw⟩ := hrel
    rw [hw]; clear hw
    by_cases hlt : i < n
    · obtain ⟨m, hm⟩ : ∃ m, l[i]? = some m := ⟨l[i]'(by rw [← HN.out]; exact hlt), List.getElem?_eq_getElem _⟩
      have hpl := printL_le (l := l) i (fun j hj => HOK.out j (by have := HN.out; omega)) (by have := HN.out; omega)
      have hk := okAt_ok (HOK.out i (by rw [← HN.out]; exact hlt))
      rw [List.getD_eq_getElem?_getD, hm] at hk
      obtain ⟨z1, z2, z3⟩ := ok_sizes (m := m) hk
      have HT : Hid (printL (l.take (i + 1)) = printL (l.take i) ++ lineOf m) := by show _ = _; rw [take_snoc hm, printL_snoc]
      rcases HAT.out with h0 | ⟨g, o, rfl, hgl, hc⟩
      · rw [h0] at hm; simp at hm
      obtain ⟨c1, c2, c3⟩ := hc i m hm
      clear hc hm hk
      obtain ⟨pl, HPL⟩ := hid_intro (printL (l.take i))
      rw [← HPL.out] at HT hpl ⊢
      have HCL := (show Hid _ from cat_step pl m)
      have y0 := size_of pl
      have y1 := size_of m.n
      have y2 := size_of m.v
      have y3 := size_of m.d
      go_wp2
      go_quiet (fail)
      go_wp2
      go_roundw
      case rel =>
        refine ⟨i + 1, _, by omega, by go_num, ?_, by first | rfl | rw [World.drewN_drewN]⟩
        rw [HT.out, ← HCL.out]
      case measure => simp [intOf]; omega
    · obtain rfl : i = n := by omega
      rw [show l.take i = l by rw [HN.out]; simp]
      go_wp2
      go_ret
      exact ⟨rfl, _, rfl⟩
end Go.Proofs.YtjngbcbkapjkhaaGreatDoor.Lk
