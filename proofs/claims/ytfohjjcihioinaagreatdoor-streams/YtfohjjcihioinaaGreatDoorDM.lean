/- The program's Deflate. -/
import Derived.Test.YtfohjjcihioinaaGreatDoorDL
import Derived.Test.YtfohjjcihioinaaGreatDoorPZ
namespace Go.Proofs.YtfohjjcihioinaaGreatDoor
open Go.RowKit

/-- a stream of a text, as short as it must be -/
def DefOf (L out : List UInt8) : Prop := (∃ k, inflS out 20000 = .ok k L ∧ (k + 7) / 8 = out.length) ∧ out.length ≤ L.length + 5 ∧ (Same L → out.length ≤ 20 + L.length / 100)
theorem fix_read {L out : List UInt8} (h : FixOf L out) (hl : L.length ≤ 20000) : (∃ k, inflS out 20000 = .ok k L ∧ (k + 7) / 8 = out.length) ∧ (Same L → out.length ≤ 20 + L.length / 100) := by
  obtain ⟨b, hW, hB, hC⟩ := h
  have e7 : (litBits 256).length = 7 := by decide
  have hlen := hW.1
  simp only [List.length_append, List.length_cons, List.length_nil, e7] at hlen
  refine ⟨⟨b.length + 10, fixed_read hB hl hW.bits, by omega⟩, fun hS => ?_⟩
  have := (hC hS).done
  omega
theorem hdr_read {L hdr : List UInt8} (h : HdrOf L hdr) (hl : L.length ≤ 20000) : (∃ k, inflS (hdr ++ L) 20000 = .ok k L ∧ (k + 7) / 8 = (hdr ++ L).length) ∧ (hdr ++ L).length = L.length + 5 := by
  have e : (hdr ++ L).length = L.length + 5 := by rw [List.length_append, h.1]; omega
  exact ⟨⟨_, stored_read hl (by omega) h.1 h.2, by omega⟩, e⟩
theorem def_plain {L out hdr : List UInt8} (hl : L.length ≤ 20000) (h1 : FixOf L out) (h2 : HdrOf L hdr) (hlt : (hdr ++ L).length < out.length) : DefOf L (hdr ++ L) := by
  obtain ⟨_, f2⟩ := fix_read h1 hl
  obtain ⟨g1, g2⟩ := hdr_read h2 hl
  exact ⟨g1, by omega, fun hS => by have := f2 hS; omega⟩
theorem def_packed {L out hdr : List UInt8} (hl : L.length ≤ 20000) (h1 : FixOf L out) (h2 : HdrOf L hdr) (hlt : ¬ (hdr ++ L).length < out.length) : DefOf L out := by
  obtain ⟨f1, f2⟩ := fix_read h1 hl
  obtain ⟨_, g2⟩ := hdr_read h2 hl
  exact ⟨f1, by omega, f2⟩
theorem conv_row {w : World} {base : Nat} {v : Value} {out : List UInt8} (h : w.ownsRow base 5 1 v out.length (Lib.byteCells out)) : (convert 75 9 v).run Tryz.prog w = .ok (.string ⟨out.toArray⟩) w := by
  rcases h.2 with ⟨rfl, h0⟩ | ⟨b, cap, cur, rfl, h1, hg, h2, h3, h4, h5⟩
  · have : out = [] := List.length_eq_zero_iff.1 h0
    subst this
    exact Lib.run_convert_nil_bytes w 75 9 5 _ Tryz.underlying75 Tryz.underlying5 Tryz.underlying9
  · refine run_convert_bytes_back w 75 9 5 ⟨b, 0, none⟩ cap out Tryz.underlying75 Tryz.underlying5 Tryz.underlying9 ?_
    intro j hj
    obtain ⟨b', cap', hv, _, hc⟩ := byte_cell h j hj
    injection hv with hv1
    injection hv1 with hv1
    injection hv1 with hv1
    subst hv1
    rw [show (⟨b, 0, none⟩ : Addr).add j = ⟨b, j, none⟩ by simp [Addr.add]; omega, hc]
    simp [hj]
set_option maxHeartbeats 1000000 in
set_option maxRecDepth 8000 in
theorem sDeflate_in (s : ByteArray) (hs : s.size ≤ 20000) (w : World) :
    Calls Tryz.prog 19 #[.string s] w fun e w' => ∃ out, e = .returned (.tuple #[.string ⟨out.toArray⟩, .nilIface]) ∧ DefOf s.data.toList out ∧ Below w.heap.size w w' := by
  have hss : s.data.toList.length = s.size := by simp
  have hd : ¬ (20000 : Int) < (s.size : Int) := by omega
  go_enter Tryz.func19, Tryz.ntmps19
  go_upto_if 18 with (first
    | (go_at_call 37; refine (fixedBlock_any s hs _).mono ?_; rintro e w1 ⟨v1, o1, rfl, hf1, hr1, hb1⟩; have HF1 := (show Hid (FixOf s.data.toList o1) from hf1); have HB1 := (show Hid (Below w.heap.size w w1) from hb1); have HR1 := (show Hid (w1.ownsRow w.heap.size 5 1 v1 o1.length (Lib.byteCells o1)) from hr1); clear hf1 hb1 hr1)
    | (go_at_call 38; refine (storedBlock_any s hs _).mono ?_; rintro e w2 ⟨v2, o2, rfl, hf2, hr2, hb2⟩; have HF2 := (show Hid (HdrOf s.data.toList o2) from hf2); have HB2 := (show Hid (Below w.heap.size w w2) from HB1.out.trans (hb2.mono HB1.out.size)); have HR2 := (show Hid (w2.ownsRow w1.heap.size 5 1 v2 (o2 ++ s.data.toList).length (Lib.byteCells (o2 ++ s.data.toList))) from hr2); have HR12 := (show Hid (w2.ownsRow w.heap.size 5 1 v1 o1.length (Lib.byteCells o1)) from own_below HR1.out hb2); obtain ⟨P2, HP2⟩ := hid_intro (o2 ++ s.data.toList); rw [← HP2.out] at HR2; obtain ⟨a1, c1, hv1⟩ := own_shape HR12.out; obtain ⟨a2, c2, hv2⟩ := own_shape HR2.out; subst hv1; subst hv2; clear hf2 hb2 hr2 HR1))
  have k1 := conv_row HR12.out
  have k2 := conv_row HR2.out
  by_cases hlt : P2.length < o1.length
  · have HD : Hid (DefOf s.data.toList P2) := by
      show DefOf _ _
      rw [HP2.out] at hlt ⊢
      exact def_plain (by omega) HF1.out HF2.out hlt
    go_wp2
    go_ret2
    exact ⟨P2, rfl, HD.out, HB2.out⟩
  · have HD : Hid (DefOf s.data.toList o1) := by
      show DefOf _ _
      rw [HP2.out] at hlt
      exact def_packed (by omega) HF1.out HF2.out hlt
    go_wp2
    go_ret2
    exact ⟨o1, rfl, HD.out, HB2.out⟩
set_option maxHeartbeats 1000000 in
set_option maxRecDepth 8000 in
theorem sDeflate_many {er : Errs} (s : ByteArray) (h : 20000 < s.size) (w : World) (he : er.At w) :
    Calls Tryz.prog 19 #[.string s] w fun e w' => Below w.heap.size w w' ∧ e = .returned (.tuple #[.string ByteArray.empty, errV er.many]) := by
  have hm := he.many
  have hd : (20000 : Int) < (s.size : Int) := by omega
  unfold errV at hm ⊢
  go_enter Tryz.func19, Tryz.ntmps19
  go_wp2
  go_region
  go_wp2
  go_ret2
  exact ⟨⟨rfl, rfl, rfl, Nat.le_refl _, fun _ _ => rfl⟩, rfl⟩
set_option maxHeartbeats 1000000 in
set_option maxRecDepth 8000 in
theorem deflate_in {er : Errs} (s : ByteArray) (hs : s.size ≤ 20000) (w : World) (_he : er.Full w) :
    Calls Tryz.prog 15 #[.string s] w fun e w' => ∃ out, e = .returned (.tuple #[.string ⟨out.toArray⟩, .int .i64 0]) ∧ DefOf s.data.toList out ∧ Below w.heap.size w w' := by
  go_enter Tryz.func15, Tryz.ntmps15
  go_wp2_with (first
    | (go_at_call 19; refine (sDeflate_in s hs _).mono ?_; rintro e w1 ⟨out, rfl, hD, hb1⟩; have HD := (show Hid (DefOf s.data.toList out) from hD); clear hD)
    | (go_at_call 21; refine (streamErrno_nil _).mono ?_; rintro e w2 ⟨rfl, hb2⟩))
  go_ret2
  exact ⟨out, rfl, HD.out, hb1.trans (hb2.mono hb1.size)⟩
set_option maxHeartbeats 1000000 in
set_option maxRecDepth 8000 in
theorem deflate_many {er : Errs} (s : ByteArray) (h : 20000 < s.size) (w : World) (he : er.Full w) :
    Calls Tryz.prog 15 #[.string s] w fun e w' => e = .returned (.tuple #[.string ByteArray.empty, .int .i64 1]) ∧ Below w.heap.size w w' := by
  go_enter Tryz.func15, Tryz.ntmps15
  go_wp2_with (first
    | (go_at_call 19; refine (sDeflate_many s h _ he.lay).mono ?_; rintro e w1 ⟨hb1, rfl⟩; have HE1 := (show Hid _ from he.below hb1))
    | (go_at_call 21; refine (streamErrno_many _ HE1.out).mono ?_; rintro e w2 ⟨rfl, hb2⟩))
  go_ret2
  exact ⟨rfl, hb1.trans (hb2.mono hb1.size)⟩
end Go.Proofs.YtfohjjcihioinaaGreatDoor
