/- The document's symbols, up to the end of a block. -/
import Derived.Test.YtfohjjcihioinaaGreatDoorRH
namespace Go.Proofs.YtfohjjcihioinaaGreatDoor
open Go.RowKit

section
variable {g : Nat} {s : ByteArray} {lim k : Nat} {o : Value} {out : List UInt8} {e : Nat}
theorem Flo.pos {w : World} (h : Flo g s lim k o out e w) : posOf g w = k := by unfold posOf; rw [h.c1]; simp
/-- how much may still come -/
def leftOf (g n : Nat) (w : World) : Nat := match w.cell? ⟨g, 4, none⟩ with | some (.int _ x) => if x = 0 then n + 1 - posOf g w else 0 | _ => 0
theorem Flo.left {w : World} (h : Flo g s lim k o out e w) (n : Nat) : leftOf g n w = if e = 0 then n + 1 - k else 0 := by
  unfold leftOf; rw [h.c4, h.pos]; simp
theorem rmatch_v (dl : List Nat) (hl : dl.length ≤ 400) (h15 : ∀ n ∈ dl, n ≤ 15) (hkr : kraft dl ≤ 32768) (v : Value) (x : Nat) (hx : x ≤ 28) {u : Int} (hu : u = (x : Int)) (w : World) (h : Flo g s lim k o out 0 w) (ht : CTab g v (ents dl) o w) :
    Calls Tryz.prog 125 #[.pointer (some ⟨g, 0, none⟩), .int .i64 u, v] w fun r w' => r = .returned (.tuple #[]) ∧ ROut g s lim o w (matchS dl s.data.toList lim x k out) w' := by
  subst hu; exact rmatch_any dl hl h15 hkr v x hx w h ht
set_option maxHeartbeats 1000000 in
set_option maxRecDepth 8000 in
theorem rpacked_any (ll dl : List Nat) (hl : ll.length ≤ 400) (h15 : ∀ n ∈ ll, n ≤ 15) (hkr : kraft ll ≤ 32768) (hl2 : dl.length ≤ 400) (h152 : ∀ n ∈ dl, n ≤ 15) (hkr2 : kraft dl ≤ 32768) (vl vd : Value) (w : World) (h : Flo g s lim k o out 0 w) (tl : CTab g vl (ents ll) o w) (td : CTab g vd (ents dl) o w) :
    Calls Tryz.prog 55 #[.pointer (some ⟨g, 0, none⟩), vl, vd] w fun r w' => r = .returned (.tuple #[]) ∧ ROut g s lim o w (symsGo ll dl s.data.toList lim (8 * s.size + 1) k out) w' := by
  obtain ⟨R, HR⟩ := hid_intro (symsGo ll dl s.data.toList lim (8 * s.size + 1) k out)
  rw [← HR.out]
  have hss : s.data.toList.length = s.size := by simp
  have HTL : Hid (CTab g vl (ents ll) o w) := tl
  have HTD : Hid (CTab g vd (ents dl) o w) := td
  have H15 := (show Hid (∀ n ∈ ll, n ≤ 15) from h15)
  have H152 := (show Hid (∀ n ∈ dl, n ≤ 15) from h152)
  have HKR := (show Hid (kraft ll ≤ 32768) from hkr)
  have HKR2 := (show Hid (kraft dl ≤ 32768) from hkr2)
  clear tl td h15 h152 hkr hkr2
  go_enter Tryz.func55, Tryz.ntmps55
  go_wp2
  go_loopw [] (fun wr => ∃ (f k' c : Nat) (o' : Value) (out' : List UInt8), ((c = 0 ∧ 8 * s.size + 1 ≤ f + k' ∧ Hid (R = symsGo ll dl s.data.toList lim f k' out')) ∨ ((c = 5 ∨ c = 6) ∧ Hid (R = .err c))) ∧ Flo g s lim k' o' out' c wr ∧ Step g o o' w wr) (fun wr => leftOf g (8 * s.size) wr)
  case atStart => exact ⟨_, k, 0, o, out, .inl ⟨rfl, by omega, HR⟩, h, Step.refl ..⟩
  case round =>
    clear h
    obtain ⟨f, k', c, o', out', hcase, hF, st⟩ := hrel
    have h4 := hF.c4
    have hlf := hF.left (8 * s.size)
    have hk' := hF.hk
    have HLF := (show Hid _ from hlf)
    clear hlf
    rcases hcase with ⟨rfl, hf, HRf⟩ | ⟨hc, HE⟩
    · obtain ⟨f, rfl⟩ : ∃ f', f = f' + 1 := ⟨f - 1, by omega⟩
      cases hD : dec ll s.data.toList k' with
      | none =>
        have HE : Hid (R = .err 5) := by rw [HRf.out]; exact symsGo_none hD
        have HDD : Hid _ := hD
        clear hD
        go_wp2_with (go_at_call 124; refine (rsymbol_none hl H15.out HKR.out vl _ hF (HTL.out.step st) HDD.out).mono ?_; rintro r w1 ⟨rfl, k3, hf3, st3⟩; have hc3 := hf3.c4)
        refine bodyPost_ret (results_none rfl _ _ _) rfl ⟨rfl, ?_⟩
        rw [HE.out]
        exact ⟨.inl rfl, _, _, _, hf3, st.trans st3⟩
      | some p =>
        obtain ⟨x, k2⟩ := p
        have hx4 : x < 400 := by have := dec_lt hD; omega
        have hkk := dec_le hD
        have HDD : Hid _ := hD
        by_cases hx : x < 256
        · have HE : Hid (R = if out'.length ≥ lim then .err 6 else symsGo ll dl s.data.toList lim f k2 (out' ++ [UInt8.ofNat x])) := by rw [HRf.out]; exact symsGo_lit hD hx
          have hxu : Hid ((x : Int) = ((UInt8.ofNat x).toNat : Int)) := by show (x : Int) = _; simp; omega
          clear hD
          by_cases hfull : out'.length ≥ lim
          · rw [if_pos hfull] at HE
            go_wp2_with (first
              | (go_at_call 124; refine (rsymbol_some hl H15.out HKR.out vl _ hF (HTL.out.step st) HDD.out).mono ?_; rintro r w1 ⟨rfl, hf1, st1⟩; have hc1 := hf1.c4)
              | (go_at_call 53; refine (comes_full _ hf1 hfull).mono ?_; rintro r w2 ⟨rfl, hf2, st2⟩))
            go_roundw
            case rel => exact ⟨0, k2, 6, o', out', .inr ⟨.inr rfl, HE⟩, hf2, (st.trans st1).trans st2⟩
            case measure => rw [HLF.out, hf2.left, if_neg (by omega)]; simp; omega
          · rw [if_neg hfull] at HE
            go_wp2_with (first
              | (go_at_call 124; refine (rsymbol_some hl H15.out HKR.out vl _ hF (HTL.out.step st) HDD.out).mono ?_; rintro r w1 ⟨rfl, hf1, st1⟩; have hc1 := hf1.c4)
              | (go_at_call 53; refine (comes_ok (UInt8.ofNat x) hxu.out _ hf1 hfull).mono ?_; rintro r w2 ⟨rfl, o2, hf2, st2⟩))
            go_roundw
            case rel => exact ⟨f, k2, 0, o2, _, .inl ⟨rfl, by omega, HE⟩, hf2, (st.trans st1).trans st2⟩
            case measure => have := hf2.hk; rw [HLF.out, hf2.left, if_pos rfl]; simp; omega
        · by_cases hxe : x = 256
          · subst hxe
            have HE : Hid (R = .ok k2 out') := by rw [HRf.out]; exact symsGo_end hD
            clear hD
            go_wp2_with (go_at_call 124; refine (rsymbol_some hl H15.out HKR.out vl _ hF (HTL.out.step st) HDD.out).mono ?_; rintro r w1 ⟨rfl, hf1, st1⟩; have hc1 := hf1.c4)
            refine bodyPost_ret (results_none rfl _ _ _) rfl ⟨rfl, ?_⟩
            rw [HE.out]
            exact ⟨_, hf1, st.trans st1⟩
          · by_cases hxb : x > 285
            · have HE : Hid (R = .err 5) := by rw [HRf.out]; exact symsGo_bad hD (by omega) (by unfold repS; rw [if_pos hxb])
              clear hD
              go_wp2_with (first
                | (go_at_call 124; refine (rsymbol_some hl H15.out HKR.out vl _ hF (HTL.out.step st) HDD.out).mono ?_; rintro r w1 ⟨rfl, hf1, st1⟩; have hc1 := hf1.c4)
                | (go_at_call 52; refine (wrong_any _ hf1).mono ?_; rintro r w2 ⟨rfl, hf2, st2⟩; have hf2' := (show Flo g s lim _ _ _ 5 w2 from hf2); clear hf2))
              go_roundw
              case rel => exact ⟨0, k2, 5, o', out', .inr ⟨.inl rfl, HE⟩, hf2', (st.trans st1).trans st2⟩
              case measure => rw [HLF.out, hf2'.left, if_neg (by omega)]; simp; omega
            · have hmt := fun w1 (hf1 : Flo g s lim k2 o' out' 0 w1) (ht1 : CTab g vd (ents dl) o' w1) => rmatch_v dl hl2 H152.out HKR2.out vd (x - 257) (by omega) (u := (x : Int) - 257) (by omega) w1 hf1 ht1
              have HMT : Hid _ := hmt
              clear hmt
              cases hQ : matchS dl s.data.toList lim (x - 257) k2 out' with
              | err c =>
                have HE : Hid (R = .err c) := by rw [HRf.out]; exact symsGo_bad hD (by omega) (by unfold repS; rw [if_neg hxb]; exact hQ)
                rw [hQ] at HMT
                clear hD hQ
                go_wp2_with (first
                  | (go_at_call 124; refine (rsymbol_some hl H15.out HKR.out vl _ hF (HTL.out.step st) HDD.out).mono ?_; rintro r w1 ⟨rfl, hf1, st1⟩; have hc1 := hf1.c4)
                  | (go_at_call 125; refine (HMT.out _ hf1 (HTD.out.step (st.trans st1))).mono ?_; rintro r w2 ⟨rfl, hcc, k3, o3, out3, hf2, st2⟩))
                go_roundw
                case rel => exact ⟨0, k3, c, o3, out3, .inr ⟨hcc, HE⟩, hf2, (st.trans st1).trans st2⟩
                case measure => rw [HLF.out, hf2.left, if_neg (by omega)]; simp; omega
              | ok k3 out3 =>
                have hk3 := repS_le (dl := dl) (s := s.data.toList) (limit := lim) (x := x) (k := k2) (out := out') (by unfold repS; rw [if_neg hxb]; exact hQ)
                have HE : Hid (R = symsGo ll dl s.data.toList lim f k3 out3) := by rw [HRf.out]; exact symsGo_rep hD (by omega) (by unfold repS; rw [if_neg hxb]; exact hQ)
                rw [hQ] at HMT
                clear hD hQ
                go_wp2_with (first
                  | (go_at_call 124; refine (rsymbol_some hl H15.out HKR.out vl _ hF (HTL.out.step st) HDD.out).mono ?_; rintro r w1 ⟨rfl, hf1, st1⟩; have hc1 := hf1.c4)
                  | (go_at_call 125; refine (HMT.out _ hf1 (HTD.out.step (st.trans st1))).mono ?_; rintro r w2 ⟨rfl, o3, hf2, st2⟩))
                go_roundw
                case rel => exact ⟨f, k3, 0, o3, out3, .inl ⟨rfl, by omega, HE⟩, hf2, (st.trans st1).trans st2⟩
                case measure => have := hf2.hk; rw [HLF.out, hf2.left, if_pos rfl]; simp; omega
    · have he' : ((c : Int) == 0) = false := by simp; omega
      go_wp2
      refine bodyPost_end (results_none rfl _ _ _) rfl ⟨rfl, ?_⟩
      rw [HE.out]
      exact ⟨hc, _, _, _, hF, st⟩
end
end Go.Proofs.YtfohjjcihioinaaGreatDoor
