/-
  What the statements' own look 'awake' and their 'short' hand back; no older memory is changed.
-/
import Derived.Test.YthffdgjdioolkaaPName
import Derived.Test.YthffdgjdioolkaaName
namespace Go.Proofs.Ythffdgjdioolkaa
open Go.RowKit
theorem Lft.one {n b : Nat} {B : Bs} {L : Kn} {w w' : World} (h : Lft (n ≤ ·) b B L w w') (hn : n ≤ w.heap.size) : PK (n ≤ ·) b B L w' ∧ Below n w w' := by
  refine ⟨h.1.mono fun k hk => ?_, h.2.below hn fun k hk => hk⟩
  rcases hk with hk | hk
  · exact hk
  · exact Nat.le_trans hn hk
abbrev N1 : Bs := [3, 119, 119, 119, 1, 97, 0]
abbrev N2 : Bs := [1, 98, 1, 97, 0]
abbrev A1 : Bs := [3, 119, 119, 119, 1, 97, 0]
abbrev A2 : Bs := [3, 119, 119, 119, 1, 97, 0, 1, 98, 192, 4]
abbrev K1 : Kn := [([3, 119, 119, 119, 1, 97, 0], 0), ([1, 97, 0], 4)]
theorem aw1 : chk N1 = 0 ∧ pkB true [] [] N1 = A1 ∧ pkL true [] [] N1 = K1 := by decide +kernel
theorem aw2 : chk N2 = 0 ∧ pkB true A1 K1 N2 = A2 := by decide +kernel
theorem aw3 : nmI A2 7 = ([1, 98, 1, 97, 0], 11, 0) := by
  show nm A2 7 7 none [] = _
  refine (nm_lab _ _ _ _ _ (by decide) (by decide) (by decide) (by decide) (by decide)).trans ?_
  show nm A2 9 7 none [1, 98] = _
  refine (nm_ptr _ _ _ _ _ (by decide) (by decide) (by decide) 4 (by decide) (by decide)).trans ?_
  show nm A2 4 4 (some 11) [1, 98] = _
  refine (nm_lab _ _ _ _ _ (by decide) (by decide) (by decide) (by decide) (by decide)).trans ?_
  show nm A2 6 4 (some 11) [1, 98, 1, 97] = _
  exact nm_zero _ _ _ _ _ (by decide) (by decide)
theorem aw4 : nmI [192, 0] 0 = ([], 0, 10) := by
  show nm [192, 0] 0 0 none [] = _
  exact nm_far _ _ _ _ _ (by decide) (by decide) (by decide) (by decide)
theorem aw5 : nmI [1, 97, 192, 0] 2 = ([], 0, 10) := by
  show nm [1, 97, 192, 0] 2 2 none [] = _
  refine (nm_ptr _ _ _ _ _ (by decide) (by decide) (by decide) 0 (by decide) (by decide)).trans ?_
  refine (nm_lab _ _ _ _ _ (by decide) (by decide) (by decide) (by decide) (by decide)).trans ?_
  show nm [1, 97, 192, 0] 2 0 (some 4) [1, 97] = _
  exact nm_far _ _ _ _ _ (by decide) (by decide) (by decide) (by decide)
theorem okK1 : OkK K1 := by unfold OkK; decide
set_option maxRecDepth 100000 in
set_option maxHeartbeats 6400000 in
theorem awake_any (w : World) : Calls Try.prog 9 #[] w fun e w' => e = .returned (.bool true) ∧ Below w.heap.size w w' := by
  have H1 := Lib.hid aw1
  have H2 := Lib.hid aw2
  have H3 := Lib.hid aw3
  have H4 := Lib.hid aw4
  have H5 := Lib.hid aw5
  go_enter Try.func9, Try.ntmps9
  go_wp2_with fail
  refine (new_any w).mono ?_
  rintro e w1 ⟨rfl, hp1, hb1⟩
  have hs1 := hb1.size
  go_wp2_with fail
  refine (pname_any ⟨#[3, 119, 119, 119, 1, 97, 0]⟩ (by decide) true _ _ _ _ _ hp1 (by decide) (by decide) okK_nil).mono ?_
  rintro e w2 ⟨rfl, hl2⟩
  rw [show chk (⟨#[3, 119, 119, 119, 1, 97, 0]⟩ : ByteArray).data.toList = 0 from H1.out.1]
  rw [show pkB true [] [] (⟨#[3, 119, 119, 119, 1, 97, 0]⟩ : ByteArray).data.toList = A1 from H1.out.2.1, show pkL true [] [] (⟨#[3, 119, 119, 119, 1, 97, 0]⟩ : ByteArray).data.toList = K1 from H1.out.2.2] at hl2
  obtain ⟨hp2, hb2⟩ := hl2.one hs1
  have h2 := hb1.trans hb2
  have hs2 := h2.size
  clear hp1 hb1 hs1 hl2 hb2
  go_wp2_with fail
  refine (pname_any ⟨#[1, 98, 1, 97, 0]⟩ (by decide) true _ _ _ _ _ hp2 (by decide) (by decide) okK1).mono ?_
  rintro e w3 ⟨rfl, hl3⟩
  rw [show chk (⟨#[1, 98, 1, 97, 0]⟩ : ByteArray).data.toList = 0 from H2.out.1]
  rw [show pkB true A1 K1 (⟨#[1, 98, 1, 97, 0]⟩ : ByteArray).data.toList = A2 from H2.out.2] at hl3
  obtain ⟨hp3, hb3⟩ := hl3.one hs2
  have h3 := h2.trans hb3
  clear hp2 hs2 hl3 hb3 h2
  go_wp2_with fail
  refine (pbytes_any _ _ _ _ _ hp3).mono ?_
  rintro e w' ⟨rfl, rfl⟩
  go_wp2_with fail
  refine (name_any ⟨#[3, 119, 119, 119, 1, 97, 0, 1, 98, 192, 4]⟩ (by decide) 7 (by omega) _).mono ?_
  rintro e w4 ⟨rfl, hb4⟩
  rw [show nmI (⟨#[3, 119, 119, 119, 1, 97, 0, 1, 98, 192, 4]⟩ : ByteArray).data.toList 7 = ([1, 98, 1, 97, 0], 11, 0) from H3.out]
  have h4 := h3.trans (hb4.mono h3.size)
  clear hp3 h3 hb4
  go_wp2_with fail
  refine (name_any ⟨#[192, 0]⟩ (by decide) 0 (by omega) _).mono ?_
  rintro e w5 ⟨rfl, hb5⟩
  rw [show nmI (⟨#[192, 0]⟩ : ByteArray).data.toList 0 = ([], 0, 10) from H4.out]
  have h5 := h4.trans (hb5.mono h4.size)
  clear h4 hb5
  go_wp2_with fail
  refine (name_any ⟨#[1, 97, 192, 0]⟩ (by decide) 2 (by omega) _).mono ?_
  rintro e w6 ⟨rfl, hb6⟩
  rw [show nmI (⟨#[1, 97, 192, 0]⟩ : ByteArray).data.toList 2 = ([], 0, 10) from H5.out]
  have h6 := h5.trans (hb6.mono h5.size)
  clear h5 hb6
  go_wp2
  go_ret
  exact ⟨rfl, h6⟩
set_option maxHeartbeats 400000 in
theorem short_cut (s : ByteArray) (n : Nat) (h : n < s.size) (w : World) :
    Calls Try.prog 10 #[.string s, .int .i64 (n : Int)] w fun e w' => e = .returned (.string (s.extract 0 n)) ∧ w = w' := by
  have hd : decide ((n : Int) < (s.size : Int)) = true := by simp; omega
  go_enter Try.func10, Try.ntmps10
  go_wp2
  go_ret
  exact ⟨rfl, rfl⟩
set_option maxHeartbeats 400000 in
theorem short_all (s : ByteArray) (n : Nat) (h : s.size ≤ n) (w : World) :
    Calls Try.prog 10 #[.string s, .int .i64 (n : Int)] w fun e w' => e = .returned (.string s) ∧ w = w' := by
  go_enter Try.func10, Try.ntmps10
  go_wp2
  go_ret
  exact ⟨rfl, rfl⟩
/-- THE CUT: what stands there behind it is of no more than so many bytes. -/
theorem short_any (s : ByteArray) (n : Nat) :
    ∃ t : ByteArray, t.size ≤ n ∧ ∀ w : World, Calls Try.prog 10 #[.string s, .int .i64 (n : Int)] w fun e w' => e = .returned (.string t) ∧ w = w' := by
  by_cases h : s.size ≤ n
  · exact ⟨s, h, fun w => short_all s n h w⟩
  · exact ⟨s.extract 0 n, by simp; omega, fun w => short_cut s n (by omega) w⟩
end Go.Proofs.Ythffdgjdioolkaa
