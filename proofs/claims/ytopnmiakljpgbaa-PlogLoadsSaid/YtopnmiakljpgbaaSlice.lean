/-
  Slice: the program's and the document's; whether two lists of entries are the same.
-/
import Derived.Test.YtopnmiakljpgbaaCheck
import Derived.Deep.RegionWith
namespace Go.Proofs.Ytopnmiakljpgbaa
open Go.RowKit
def slK (base : Int) (n : Nat) (fr : Int) : Nat := (max (plc base n fr) 1 - 1).toNat
def slL (base : Int) (L : List En) (fr most : Int) : List En := (L.drop (slK base L.length fr)).take most.toNat
/-- r[:k] of entries. -/
theorem slice_to {w0 : World} {a : Option Addr} {n cap : Nat} {L : List En} (h : RdE w0 (.slice a n cap) L) (k : Nat) (hk : k ≤ L.length) :
    (∀ w : World, (Instr.slice 22 (.slice a n cap) none (some (it (k : Int))) none).run Try.prog w = .ok (.slice a k cap) w) ∧ RdE w0 (.slice a k cap) (L.take k) := by
  obtain ⟨i, hi, hz0, hz1, hz2⟩ := info_parts info31
  have hn := h.len
  have hc : n ≤ cap ∧ cap ≤ maxLen := by obtain ⟨_, _, e, h1, h2⟩ := h.shape; cases e; exact ⟨h1, h2⟩
  refine ⟨fun w => ?_, h.take k cap hk (by omega) hc.2⟩
  have h4 : k ≤ cap := by omega
  cases a with
  | none =>
    obtain ⟨rfl, rfl⟩ := h.none_nil
    obtain rfl : k = 0 := by simpa using hk
    simp [Instr.slice, Instr.sliceBounds, Instr.sliceBound, run_underlying Try.underlying22, sizeOf, typeInfo, hi, asIntOf]
  | some ad =>
    have e : ad.add 0 = ad := by
      obtain ⟨g, o, p⟩ := ad
      cases p <;> simp [Addr.add]
    simp [Instr.slice, Instr.sliceBounds, Instr.sliceBound, run_underlying Try.underlying22, sizeOf, typeInfo, hi, asIntOf, h4, e]
theorem map_add0 (a : Option Addr) : (a.map fun x => x.add (0 * 3)) = a := by
  cases a with
  | none => rfl
  | some ad =>
    obtain ⟨g, o, p⟩ := ad
    cases p <;> simp [Addr.add]
/-- r[k:], told whole. -/
theorem slice_low {w0 : World} {a : Option Addr} {n cap : Nat} {L : List En} (h : RdE w0 (.slice a n cap) L) (k : Nat) (hk : k ≤ L.length) :
    RdE w0 (.slice (if cap = k then a else a.map fun x => x.add (k * 3)) (n - k) (cap - k)) (L.drop k) := by
  obtain ⟨a', c', he, h1, h2, h3⟩ := h
  cases he
  have e : (L.drop k).length = L.length - k := List.length_drop
  by_cases hc : cap = k
  · rw [if_pos hc]
    exact ⟨_, _, by rw [e], by omega, by omega, .inl (List.eq_nil_of_length_eq_zero (by omega))⟩
  · rw [if_neg hc]
    refine ⟨_, _, by rw [e], by omega, by omega, ?_⟩
    rcases h3 with rfl | ⟨g, o, ha, hcell⟩
    · exact .inl (by simp)
    · subst ha
      refine .inr ⟨g, o + k * 3, by simp [add_any], fun i x hx => ?_⟩
      have := hcell (k + i) x (by rw [List.getElem?_drop] at hx; exact hx)
      rw [show o + (k + i) * 3 = o + k * 3 + i * 3 by omega] at this
      exact this
section
variable {w : World} {base bt : Int} {a : Option Addr} {n cap : Nat} {L : List En}
set_option maxRecDepth 100000 in
set_option maxHeartbeats 25600000 in
theorem slice_any (h : RdE w (.slice a n cap) L) (hb : -1000 ≤ base ∧ base ≤ 1125899906842624) {fr most : Int} (hf : I64 fr) (hl : L.length ≤ 100000) :
    Calls Try.prog 18 #[lv base bt (.slice a n cap), it fr, it most] w fun e w' => ∃ v, e = .returned v ∧ OwnE w' w.heap.size v (slL base L fr most) ∧ Below w.heap.size w w' := by
  have hn := h.len
  subst hn
  obtain ⟨k, hk⟩ : ∃ k, k = slK base L.length fr := ⟨_, rfl⟩
  have hkl : k ≤ L.length := by
    rw [hk]; unfold slK
    rcases plc_cases base L.length fr with ⟨h1, h2⟩ | ⟨h1, h2⟩ | ⟨p, h1, hp, h2⟩ <;> rw [h2] <;> omega
  have hs2 := slice_low h k hkl
  obtain ⟨a', ha'⟩ : ∃ a', a' = (if cap = k then a else a.map fun x => x.add (k * 3)) := ⟨_, rfl⟩
  rw [← ha'] at hs2
  have HA0 := Lib.hid ha'
  clear ha'
  have hcap : L.length ≤ cap := by obtain ⟨_, _, e, h1, _⟩ := h.shape; injection e with _ _ e3; omega
  have HP := Lib.hid (fun w' => place_any (base := base) ⟨by omega, by omega⟩ hf bt a L.length cap (by omega) w')
  have HLB := Lib.hid (lb_new w base bt (.slice a L.length cap))
  have HB := Lib.hid (one_new w (.cells #[it base, it bt, .slice a L.length cap] 24))
  obtain ⟨P, hP⟩ : ∃ P, P = plc base L.length fr := ⟨_, rfl⟩
  rw [← hP] at HP
  have hcase : (P = -1 ∧ k = 0) ∨ (P = 0 ∧ k = 0) ∨ (P = ((k + 1 : Nat) : Int)) := by
    rw [hk]; unfold slK
    rw [← hP]
    rcases plc_cases base L.length fr with ⟨h1, h2⟩ | ⟨h1, h2⟩ | ⟨p, h1, hp, h2⟩ <;> (rw [← hP] at h2; omega)
  obtain ⟨M, hM⟩ : ∃ M, M = L.drop k := ⟨_, rfl⟩
  have hsl : slL base L fr most = M.take most.toNat := by unfold slL; rw [← hk, hM]
  rw [hsl]
  rw [← hM] at hs2
  obtain ⟨m, hm⟩ : ∃ m, m = L.length := ⟨_, rfl⟩
  rw [← hm] at hs2 hcap HP HLB HB hl hkl ⊢
  have hlen : M.length = m - k := by rw [hM, List.length_drop, hm]
  have hcc : M.take most.toNat = M.take (min most.toNat (m - k)) := by
    rcases Nat.le_total most.toNat (m - k) with h | h
    · rw [Nat.min_eq_left h]
    · rw [Nat.min_eq_right h, List.take_of_length_le (by omega), List.take_of_length_le (by omega)]
  rw [hcc]
  obtain ⟨c, hc⟩ : ∃ c, c = min most.toNat (m - k) := ⟨_, rfl⟩
  rw [← hc]
  obtain ⟨hc1, hc2⟩ := slice_to hs2 c (by omega)
  have HS2 := Lib.hid hc2
  have HC := Lib.hid hc
  have HLM := Lib.hid hlen
  clear hk hP hsl hM hm hcc h hlen hs2 hc2 hc
  go_enter Try.func18, Try.ntmps18
  go_upto_region 1 with fail
  generalize w.alloc _ = wA at *
  have H0 : Hid (Below wA.heap.size wA wA.drew) := Lib.hid (Below.refl _ wA).drew
  have HK := Lib.hid (fun w' (hb : Below wA.heap.size wA w') => (show w'.cell? ⟨w.heap.size, 0, none⟩ = some (it base) ∧ w'.cell? ⟨w.heap.size, 1, none⟩ = some (it bt) ∧ w'.cell? ⟨w.heap.size, 2, none⟩ = some (.slice a m cap) from ⟨(HLB.out.below hb).c0, (HLB.out.below hb).c1, (HLB.out.below hb).c2⟩))
  have hkm : k ≤ m := hkl
  go_cut [7] from 9 to 16 (fun v wx => v = .slice a' (m - k) (cap - k) ∧ Below wA.heap.size wA wx)
  case first =>
    have hw0 : IntKind.i64.wrap 0 = 0 := by decide
    have hwk : IntKind.i64.wrap (k : Int) = (k : Int) := by unfold IntKind.wrap; simp only [IntKind.bits, IntKind.signed]; simp; omega
    have ha' := HA0.out
    clear HA0
    by_cases hck : cap = k
    · rw [if_pos hck] at ha'
      subst ha'
      have HA' : Hid (a' = a') := Lib.hid rfl
      obtain rfl : m = k := by omega
      subst hck
      rcases hcase with ⟨rfl, rfl⟩ | ⟨rfl, rfl⟩ | hPk
      · have hlast : True := trivial
        obtain ⟨c0, c1, c2⟩ := HK.out _ H0.out
        go_region_with (first | (go_at_call 44; refine (HP.out _).mono ?_; rintro e w2 ⟨rfl, hb2⟩; have HB2 : Hid (Below wA.heap.size wA w2) := Lib.hid (H0.out.trans (hb2.mono H0.out.size)); obtain ⟨d0, d1, d2⟩ := HK.out _ HB2.out; clear hb2) | fail)
        all_goals go_wp2
        all_goals go_meet
        all_goals exact ⟨rfl, HB2.out⟩
      · have hlast : True := trivial
        obtain ⟨c0, c1, c2⟩ := HK.out _ H0.out
        go_region_with (first | (go_at_call 44; refine (HP.out _).mono ?_; rintro e w2 ⟨rfl, hb2⟩; have HB2 : Hid (Below wA.heap.size wA w2) := Lib.hid (H0.out.trans (hb2.mono H0.out.size)); obtain ⟨d0, d1, d2⟩ := HK.out _ HB2.out; clear hb2) | fail)
        all_goals go_wp2
        all_goals go_meet
        all_goals exact ⟨rfl, HB2.out⟩
      · have hlast : True := trivial
        have hpk : P - 1 = (cap : Int) := by omega
        have hwp : IntKind.i64.wrap (P - 1) = (cap : Int) := by rw [hpk]; exact hwk
        have r1 : decide (P < 1) = false := decide_eq_false (by omega)
        have r3 : 1 ≤ P := by omega
        clear hPk hpk
        obtain ⟨c0, c1, c2⟩ := HK.out _ H0.out
        go_region_with (first | (go_at_call 44; refine (HP.out _).mono ?_; rintro e w2 ⟨rfl, hb2⟩; have HB2 : Hid (Below wA.heap.size wA w2) := Lib.hid (H0.out.trans (hb2.mono H0.out.size)); obtain ⟨d0, d1, d2⟩ := HK.out _ HB2.out; clear hb2) | fail)
        all_goals go_wp2
        all_goals go_meet
        all_goals exact ⟨by simp, HB2.out⟩
    · rw [if_neg hck] at ha'
      have HA' := Lib.hid ha'
      clear ha'
      have hck' : decide (cap = k) = false := decide_eq_false hck
      rcases hcase with ⟨rfl, rfl⟩ | ⟨rfl, rfl⟩ | hPk
      · have hlast : True := trivial
        obtain ⟨c0, c1, c2⟩ := HK.out _ H0.out
        go_region_with (first | (go_at_call 44; refine (HP.out _).mono ?_; rintro e w2 ⟨rfl, hb2⟩; have HB2 : Hid (Below wA.heap.size wA w2) := Lib.hid (H0.out.trans (hb2.mono H0.out.size)); obtain ⟨d0, d1, d2⟩ := HK.out _ HB2.out; clear hb2) | fail)
        all_goals go_wp2
        all_goals go_meet
        all_goals exact ⟨by rw [HA'.out, map_add0]; rfl, HB2.out⟩
      · have hlast : True := trivial
        obtain ⟨c0, c1, c2⟩ := HK.out _ H0.out
        go_region_with (first | (go_at_call 44; refine (HP.out _).mono ?_; rintro e w2 ⟨rfl, hb2⟩; have HB2 : Hid (Below wA.heap.size wA w2) := Lib.hid (H0.out.trans (hb2.mono H0.out.size)); obtain ⟨d0, d1, d2⟩ := HK.out _ HB2.out; clear hb2) | fail)
        all_goals go_wp2
        all_goals go_meet
        all_goals exact ⟨by rw [HA'.out, map_add0]; rfl, HB2.out⟩
      · have hlast : True := trivial
        have hpk : P - 1 = (k : Int) := by omega
        have hwp : IntKind.i64.wrap (P - 1) = (k : Int) := by rw [hpk]; exact hwk
        have r1 : decide (P < 1) = false := decide_eq_false (by omega)
        have r3 : 1 ≤ P := by omega
        clear hPk hpk
        obtain ⟨c0, c1, c2⟩ := HK.out _ H0.out
        go_region_with (first | (go_at_call 44; refine (HP.out _).mono ?_; rintro e w2 ⟨rfl, hb2⟩; have HB2 : Hid (Below wA.heap.size wA w2) := Lib.hid (H0.out.trans (hb2.mono H0.out.size)); obtain ⟨d0, d1, d2⟩ := HK.out _ HB2.out; clear hb2) | fail)
        all_goals go_wp2
        all_goals go_meet
        all_goals exact ⟨by rw [HA'.out], HB2.out⟩
  case rest =>
    obtain ⟨rfl, hbr⟩ := hcut
    have HB1 := Lib.hid (HB.out.trans (hbr.mono HB.out.size))
    have HS1 := Lib.hid (HS2.out.below HB1.out)
    clear hbr H0 HK HP hcase
    go_upto_region 2 with fail
    go_cut [8] from 17 to 21 (fun v wx => v = it (c : Int) ∧ wc = wx)
    case first =>
      have hc := HC.out
      go_wp2
      all_goals
        go_meet
        exact ⟨congrArg it (by omega), rfl⟩
    case rest =>
      obtain ⟨rfl, rfl⟩ := hcut
      have HN0 : Hid (([] : List En).length + (M.take c).length ≤ 1000000) := Lib.hid (by have := HLM.out; simp; omega)
      obtain ⟨N, hN⟩ : ∃ N, N = M.take c := ⟨_, rfl⟩
      rw [← hN] at HS1 HN0
      have HNN := Lib.hid hN
      clear hN
      go_wp2_with (at_builtin; refine wp_app_own rfl (.const (.slice none 0 0)) (.tmp 24) rfl rfl w.heap.size _ [] N rfl (ownE_nil _ _) _ rfl HS1.out HN0.out HB1.out.size ?_)
      intro v' w2 ho hb2
      have HO := Lib.hid ho
      have HB2 := Lib.hid (HB1.out.trans hb2)
      clear ho hb2
      go_wp2
      go_ret
      exact ⟨_, rfl, by rw [← HNN.out]; exact HO.out, HB2.out⟩
end
end Go.Proofs.Ytopnmiakljpgbaa
