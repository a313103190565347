/-
  What the statements' own look 'awake' and the cut 'short' hand back; no older memory is changed.
-/
import Derived.Test.YtnlgijihfkkmgaaOf
import Derived.Test.YtnlgijihfkkmgaaShift
namespace Go.Proofs.Ytnlgijihfkkmgaa
open Go.RowKit
theorem joined (l m : List UInt8) (k : Nat) (hk : m.length = k) : stn (8 * k) (cs l) ^^^ cs m = cs (l ++ m) := by
  rw [← hk]; exact join_cs l m
theorem cs_a : cs [97] = 3904355907 := by decide +kernel
theorem cs_9 : cs [49, 50, 51, 52, 53, 54, 55, 56, 57] = 3421780262 := by decide +kernel
set_option maxHeartbeats 1600000 in
theorem awake_any (w : World) : Calls Try.prog 8 #[] w fun e w' => e = .returned (.bool true) ∧ Below w.heap.size w w' := by
  go_enter Try.func8, Try.ntmps8
  go_wp2_with fail
  refine (of_nil w).mono ?_
  rintro e w1 ⟨rfl, hb1⟩
  go_wp2_with fail
  refine (of_one ⟨#[97]⟩ (by decide) w1).mono ?_
  rintro e w2 ⟨rfl, hb2⟩
  rw [show (⟨#[97]⟩ : ByteArray).data.toList = [97] from rfl, cs_a]
  have hb2' := hb1.trans (hb2.mono hb1.size)
  clear hb1 hb2
  go_wp2_with fail
  refine (of_two ⟨#[49, 50, 51, 52]⟩ ⟨#[53, 54, 55, 56, 57]⟩ (by decide) (by decide) w2).mono ?_
  rintro e w3 ⟨rfl, hb3⟩
  rw [show (⟨#[49, 50, 51, 52]⟩ : ByteArray).data.toList ++ (⟨#[53, 54, 55, 56, 57]⟩ : ByteArray).data.toList = [49, 50, 51, 52, 53, 54, 55, 56, 57] from rfl, cs_9]
  have hb3' := hb2'.trans (hb3.mono hb2'.size)
  clear hb2' hb3
  go_wp2_with fail
  refine (of_one ⟨#[49, 50, 51, 52, 53]⟩ (by decide) w3).mono ?_
  rintro e w4 ⟨rfl, hb4⟩
  have hb4' := hb3'.trans (hb4.mono hb3'.size)
  clear hb3' hb4
  obtain ⟨c, hc⟩ : ∃ c, c = cs (⟨#[49, 50, 51, 52, 53]⟩ : ByteArray).data.toList := ⟨_, rfl⟩
  rw [← hc]
  have hcl : c < 4294967296 := by rw [hc]; exact cs_lt _
  have had : ad c (⟨#[54, 55, 56, 57]⟩ : ByteArray).data.toList = 3421780262 := by rw [hc, ad_cs]; exact cs_9
  have hjn : stn (8 * 4) c ^^^ cs (⟨#[54, 55, 56, 57]⟩ : ByteArray).data.toList = 3421780262 := by
    rw [hc, joined _ _ 4 rfl]; exact cs_9
  have HC := Lib.hid hc
  have HA := Lib.hid had
  have HJ := Lib.hid hjn
  clear hc had hjn
  go_wp2_with fail
  refine (add_any c hcl ⟨#[54, 55, 56, 57]⟩ (by decide) w4).mono ?_
  rintro e w5 ⟨rfl, hb5⟩
  rw [HA.out]
  have hb5' := hb4'.trans (hb5.mono hb4'.size)
  clear hb4' hb5
  go_wp2_with fail
  refine (of_one ⟨#[49, 50, 51, 52, 53]⟩ (by decide) w5).mono ?_
  rintro e w6 ⟨rfl, hb6⟩
  rw [← HC.out]
  have hb6' := hb5'.trans (hb6.mono hb5'.size)
  clear hb5' hb6
  go_wp2_with fail
  refine (of_one ⟨#[54, 55, 56, 57]⟩ (by decide) w6).mono ?_
  rintro e w7 ⟨rfl, hb7⟩
  have hb7' := hb6'.trans (hb7.mono hb6'.size)
  clear hb6' hb7
  obtain ⟨d, hd⟩ : ∃ d, d = cs (⟨#[54, 55, 56, 57]⟩ : ByteArray).data.toList := ⟨_, rfl⟩
  rw [← hd] at HJ ⊢
  have hdl : d < 4294967296 := by rw [hd]; exact cs_lt _
  clear hd
  go_wp2_with fail
  refine (join_any c d hcl hdl 4 (by omega) (by omega) 4 (Or.inr (Or.inl ⟨rfl, by omega⟩)) w7).mono ?_
  rintro e w8 ⟨rfl, rfl⟩
  rw [HJ.out]
  go_wp2
  go_ret
  exact ⟨rfl, hb7'⟩
set_option maxHeartbeats 400000 in
theorem short_cut (s : ByteArray) (n : Nat) (h : n < s.size) (w : World) :
    Calls Try.prog 9 #[.string s, .int .i64 (n : Int)] w fun e w' => e = .returned (.string (s.extract 0 n)) ∧ w = w' := by
  have hd : decide ((n : Int) < (s.size : Int)) = true := by simp; omega
  go_enter Try.func9, Try.ntmps9
  go_wp2
  go_ret
  exact ⟨rfl, rfl⟩
set_option maxHeartbeats 400000 in
theorem short_all (s : ByteArray) (n : Nat) (h : s.size ≤ n) (w : World) :
    Calls Try.prog 9 #[.string s, .int .i64 (n : Int)] w fun e w' => e = .returned (.string s) ∧ w = w' := by
  go_enter Try.func9, Try.ntmps9
  go_wp2
  go_ret
  exact ⟨rfl, rfl⟩
/-- THE CUT: what stands there behind it is of no more than so many bytes. -/
theorem short_any (s : ByteArray) (n : Nat) :
    ∃ t : ByteArray, t.size ≤ n ∧ ∀ w : World, Calls Try.prog 9 #[.string s, .int .i64 (n : Int)] w fun e w' => e = .returned (.string t) ∧ w = w' := by
  by_cases h : s.size ≤ n
  · exact ⟨s, h, fun w => short_all s n h w⟩
  · exact ⟨s.extract 0 n, by simp; omega, fun w => short_cut s n (by omega) w⟩
end Go.Proofs.Ytnlgijihfkkmgaa
