/-
  The walk of the law PackReads: for every text, place and number it returns true; no older memory is changed.
-/
import Derived.Test.YthffdgjdioolkaaAwake
namespace Go.Proofs.Ythffdgjdioolkaa
open Go.RowKit
set_option maxRecDepth 100000 in
set_option maxHeartbeats 6400000 in
theorem lawReads_any (s : ByteArray) (a n : Int) (ha : -9223372036854775808 ≤ a ∧ a ≤ 9223372036854775807) (hn : -9223372036854775808 ≤ n ∧ n ≤ 9223372036854775807) (w : World) :
    Calls Try.prog 3 #[.string s, .int .i64 a, .int .i64 n] w fun e w' => e = .returned (.bool true) ∧ Below w.heap.size w w' := by
  obtain ⟨t, ht, hsh⟩ := short_any s 400
  have htb : t.size ≤ 140737488351232 := by omega
  have HSH := Lib.hid hsh
  have hb1 : numB (piS t.data.toList a 1) < 256 ^ 1 := piS_len' t.data.toList a 1
  have hb2 : numB (piS t.data.toList a 2) < 256 ^ 2 := piS_len' t.data.toList a 2
  have hb4 : numB (piS t.data.toList a 4) < 256 ^ 4 := piS_len' t.data.toList a 4
  have C1 := fun w => byte_any t htb a ha w
  have C2 := fun w => word_any t htb a ha w
  have C4 := fun w => long_any t htb a ha w
  have D1 := fun w => rnumber_any t htb a 1 ha (by omega) w
  have D2 := fun w => rnumber_any t htb a 2 ha (by omega) w
  have D4 := fun w => rnumber_any t htb a 4 ha (by omega) w
  have E1 := fun w => raw_any t htb a n ha hn w
  have E2 := fun w => rraw_any t htb a n ha hn w
  unfold nuV at C1 C2 C4 D1 D2 D4
  unfold pcV at E1 E2
  obtain ⟨x1, hx1⟩ : ∃ x : Int, x = numB (piS t.data.toList a 1) := ⟨_, rfl⟩
  obtain ⟨x2, hx2⟩ : ∃ x : Int, x = numB (piS t.data.toList a 2) := ⟨_, rfl⟩
  obtain ⟨x4, hx4⟩ : ∃ x : Int, x = numB (piS t.data.toList a 4) := ⟨_, rfl⟩
  have b1 : 0 ≤ x1 ∧ x1 < 256 := by omega
  have b2 : 0 ≤ x2 ∧ x2 < 65536 := by omega
  have b4 : 0 ≤ x4 ∧ x4 < 4294967296 := by omega
  rw [← hx1] at C1 D1
  rw [← hx2] at C2 D2
  rw [← hx4] at C4 D4
  clear hx1 hx2 hx4 hb1 hb2 hb4
  obtain ⟨b11, b12⟩ := b1
  obtain ⟨b21, b22⟩ := b2
  obtain ⟨b41, b42⟩ := b4
  generalize piP t.data.toList a 1 = p1 at C1 D1
  generalize piR t.data.toList a 1 = r1 at C1 D1
  generalize piP t.data.toList a 2 = p2 at C2 D2
  generalize piR t.data.toList a 2 = r2 at C2 D2
  generalize piP t.data.toList a 4 = p4 at C4 D4
  generalize piR t.data.toList a 4 = r4 at C4 D4
  generalize piP t.data.toList a n = pn at E1 E2
  generalize piR t.data.toList a n = rn at E1 E2
  generalize piS t.data.toList a n = sn at E1 E2
  have HC1 := Lib.hid C1
  have HC2 := Lib.hid C2
  have HC4 := Lib.hid C4
  have HD1 := Lib.hid D1
  have HD2 := Lib.hid D2
  have HD4 := Lib.hid D4
  have HE1 := Lib.hid E1
  have HE2 := Lib.hid E2
  clear C1 C2 C4 D1 D2 D4 E1 E2 hsh
  go_enter Try.func3, Try.ntmps3
  go_wp2_with fail
  refine (awake_any _).mono ?_
  rintro e w1 ⟨rfl, h1⟩
  go_wp2_with fail
  refine (HSH.out _).mono ?_
  rintro e w' ⟨rfl, rfl⟩
  go_wp2_with fail
  refine (HC1.out _).mono ?_
  rintro e w' ⟨rfl, rfl⟩
  go_wp2_with fail
  refine (HD1.out _).mono ?_
  rintro e w' ⟨rfl, rfl⟩
  go_wp2_with fail
  refine (HC2.out _).mono ?_
  rintro e w' ⟨rfl, rfl⟩
  go_wp2_with fail
  refine (HD2.out _).mono ?_
  rintro e w' ⟨rfl, rfl⟩
  go_wp2_with fail
  refine (HC4.out _).mono ?_
  rintro e w' ⟨rfl, rfl⟩
  go_wp2_with fail
  refine (HD4.out _).mono ?_
  rintro e w' ⟨rfl, rfl⟩
  go_wp2_with fail
  refine (HE1.out _).mono ?_
  rintro e w2 ⟨rfl, h2⟩
  go_wp2_with fail
  refine (HE2.out _).mono ?_
  rintro e w' ⟨rfl, rfl⟩
  have h3 := h1.trans (h2.mono h1.size)
  clear h1 h2
  go_wp2
  go_ret
  exact ⟨rfl, h3⟩
end Go.Proofs.Ythffdgjdioolkaa
