/-
  What the statements' own look 'awake' and their 'small' hand back; no older memory is changed.
-/
import Derived.Test.YtflpceaaelampaaGet
import Derived.Test.YtflpceaaelampaaPutWalk
namespace Go.Proofs.Ytflpceaaelampaa
open Go.RowKit
abbrev RA : Rc := ⟨⟨#[3, 119, 119, 119, 1, 97, 0]⟩, 1, 1, 60, ⟨#[1, 2, 3, 4]⟩⟩
abbrev BA : Bs := [3, 119, 119, 119, 1, 97, 0, 0, 1, 0, 1, 0, 0, 0, 60, 0, 4, 1, 2, 3, 4]
theorem ra1 : rck RA = 0 := by decide +kernel
theorem ra2 : rpB [] [] RA = BA := by decide +kernel
theorem raN : nmI BA 0 = ([3, 119, 119, 119, 1, 97, 0], 7, 0) := by
  have := nmI_plain [] [3, 119, 119, 119, 1, 97, 0] [0, 1, 0, 1, 0, 0, 0, 60, 0, 4, 1, 2, 3, 4] (by decide +kernel)
  exact this
theorem ra3 : gt BA 0 = (RA, 21, 0) := by
  have e1 : hdE BA 0 = 0 := by unfold hdE; rw [raN]; decide +kernel
  have e2 : hdP BA 0 = 17 := by unfold hdP; rw [raN]; decide +kernel
  have e3 : hdF BA 0 = [0, 1, 0, 1, 0, 0, 0, 60, 0, 4] := by unfold hdF; rw [raN]; decide +kernel
  have e4 : hdZ BA 0 = 4 := by unfold hdZ; rw [e3]; decide +kernel
  have e5 : hdR BA 0 = ⟨⟨#[3, 119, 119, 119, 1, 97, 0]⟩, 1, 1, 60, ⟨#[]⟩⟩ := by unfold hdR; rw [e3, raN, Rc.mk.injEq]; decide +kernel
  have e6 : gtP BA 0 = ([(false, [1, 2, 3, 4])], 21, 0) := by
    unfold gtP; rw [e2, e4, e5]
    show rdP BA [((4 : Nat) : Int)] ((17 : Nat) : Int) = _
    rw [rdP_cons_yes (rd1_cut (by decide)), rdP_end]
    decide +kernel
  have e7 : gtR BA 0 = RA := by unfold gtR; rw [e6, e5, Rc.mk.injEq]; decide +kernel
  unfold gt
  rw [if_pos e1, e6, e7, e2, e4, ra1]
  have f1 : piR BA 17 ((4 : Nat) : Int) = 0 := by decide +kernel
  have f2 : piP BA 17 ((4 : Nat) : Int) = 21 := by decide +kernel
  rw [f1, f2]
  unfold gtW
  rw [if_pos rfl, if_pos rfl, if_pos rfl, if_pos rfl]
theorem rb1 : rck ⟨⟨#[0]⟩, 1, 0, 0, ⟨#[97, 98, 99]⟩⟩ = 10 := by decide +kernel
theorem rb2 : rck ⟨⟨#[0]⟩, 16, 0, 0, ⟨#[]⟩⟩ = 10 := by
  have h : txt [] = false := by unfold txt; rw [jT_stop (by decide)]; decide
  have h1 : chk (⟨#[0]⟩ : ByteArray).data.toList = 0 := by decide +kernel
  have h2 : vld 16 (⟨#[]⟩ : ByteArray).data.toList = txt [] := rfl
  unfold rck
  simp only
  rw [if_pos h1, h2, h]
  decide
theorem ok_small (n d : ByteArray) (t c l : Nat) (hn : n.size ≤ 140737488351232) (hd : d.size ≤ 140737488351232) (ht : t < 65536) (hc : c < 65536) (hl : l < 4294967296) : Rc.Ok ⟨n, t, c, l, d⟩ := ⟨hn, hd, ht, hc, hl⟩
set_option maxRecDepth 100000 in
set_option maxHeartbeats 6400000 in
theorem awake_any (w : World) : Calls Try.prog 10 #[] w fun e w' => e = .returned (.bool true) ∧ Below w.heap.size w w' := by
  have H1 := Lib.hid ra1
  have H2 := Lib.hid ra2
  have H3 := Lib.hid ra3
  have HG : Hid (∀ w, Calls Try.prog 20 #[.string ⟨#[3, 119, 119, 119, 1, 97, 0, 0, 1, 0, 1, 0, 0, 0, 60, 0, 4, 1, 2, 3, 4]⟩, .int .i64 0] w fun e w' => e = .returned (.tuple #[.agg #[.string ⟨#[3, 119, 119, 119, 1, 97, 0]⟩, .int .u16 1, .int .u16 1, .int .u32 60, .string ⟨#[1, 2, 3, 4]⟩], .int .i64 21, .int .i64 0]) ∧ Below w.heap.size w w') :=
    Lib.hid fun w => by
      have := get_any ⟨#[3, 119, 119, 119, 1, 97, 0, 0, 1, 0, 1, 0, 0, 0, 60, 0, 4, 1, 2, 3, 4]⟩ (by decide) 0 (by omega) w
      rw [show gt (⟨#[3, 119, 119, 119, 1, 97, 0, 0, 1, 0, 1, 0, 0, 0, 60, 0, 4, 1, 2, 3, 4]⟩ : ByteArray).data.toList 0 = (RA, 21, 0) from ra3] at this
      exact this
  have HK1 : Hid (∀ w, Calls Try.prog 16 #[.agg #[.string ⟨#[0]⟩, .int .u16 1, .int .u16 0, .int .u32 0, .string ⟨#[97, 98, 99]⟩]] w fun e w' => e = .returned (.int .i64 10) ∧ Below w.heap.size w w') :=
    Lib.hid fun w => by have := rcheckrec_any ⟨⟨#[0]⟩, 1, 0, 0, ⟨#[97, 98, 99]⟩⟩ (ok_small _ _ _ _ _ (by decide) (by decide) (by decide) (by decide) (by decide)) w; rw [rb1] at this; exact this
  have HK2 : Hid (∀ w, Calls Try.prog 16 #[.agg #[.string ⟨#[0]⟩, .int .u16 16, .int .u16 0, .int .u32 0, .string ⟨#[]⟩]] w fun e w' => e = .returned (.int .i64 10) ∧ Below w.heap.size w w') :=
    Lib.hid fun w => by have := rcheckrec_any ⟨⟨#[0]⟩, 16, 0, 0, ⟨#[]⟩⟩ (ok_small _ _ _ _ _ (by decide) (by decide) (by decide) (by decide) (by decide)) w; rw [rb2] at this; exact this
  have HL1 : Hid (∀ w, Calls Try.prog 18 #[.int .u32 2147483648] w fun e w' => e = .returned (.int .u32 0) ∧ w = w') := Lib.hid fun w => life_any 2147483648 (by omega) w
  have HL2 : Hid (∀ w, Calls Try.prog 18 #[.int .u32 2147483647] w fun e w' => e = .returned (.int .u32 2147483647) ∧ w = w') := Lib.hid fun w => life_any 2147483647 (by omega) w
  have hok : Hid (Rc.Ok RA) := Lib.hid (ok_small _ _ _ _ _ (by decide) (by decide) (by decide) (by decide) (by decide))
  go_enter Try.func10, Try.ntmps10
  go_wp2_with fail
  refine (new_any w).mono ?_
  rintro e w1 ⟨rfl, hp1, hb1⟩
  have hs1 := hb1.size
  go_wp2_with fail
  refine (putrec_any RA hok.out _ _ _ _ _ hp1 ⟨by simp, okK_nil⟩ (by simp)).mono ?_
  rintro e w2 ⟨rfl, hl2⟩
  rw [H1.out]
  rw [H2.out] at hl2
  obtain ⟨hp2, hb2⟩ := hl2.one hs1
  have h2 := hb1.trans hb2
  clear hp1 hb1 hs1 hl2 hb2
  go_wp2_with fail
  refine (pbytes_any _ _ _ _ _ hp2).mono ?_
  rintro e w' ⟨rfl, rfl⟩
  go_wp2_with fail
  refine (HG.out _).mono ?_
  rintro e w3 ⟨rfl, hb3⟩
  have h3 := h2.trans (hb3.mono h2.size)
  have R3 := Ce.new w3 25 #[.string ⟨#[3, 119, 119, 119, 1, 97, 0]⟩, .int .u16 1, .int .u16 1, .int .u32 60, .string ⟨#[1, 2, 3, 4]⟩]
  have h4 := h3.alloc h3.size (.cells #[.string ⟨#[3, 119, 119, 119, 1, 97, 0]⟩, .int .u16 1, .int .u16 1, .int .u32 60, .string ⟨#[1, 2, 3, 4]⟩] 25)
  clear hb3 hp2 h2 h3
  go_wp2_with fail
  refine (HK1.out _).mono ?_
  rintro e w4 ⟨rfl, hb4⟩
  have h5 := h4.trans (hb4.mono h4.size)
  clear hb4 h4
  go_wp2_with fail
  refine (HK2.out _).mono ?_
  rintro e w5 ⟨rfl, hb5⟩
  have h6 := h5.trans (hb5.mono h5.size)
  clear hb5 h5
  go_wp2_with fail
  refine (HL1.out _).mono ?_
  rintro e w6 ⟨rfl, rfl⟩
  go_wp2_with fail
  refine (HL2.out _).mono ?_
  rintro e w6 ⟨rfl, rfl⟩
  go_wp2
  go_ret
  exact ⟨rfl, h6⟩
end Go.Proofs.Ytflpceaaelampaa
