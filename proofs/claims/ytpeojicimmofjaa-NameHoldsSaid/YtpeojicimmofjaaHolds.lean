/-
  The walk of the law NameHolds: for every two texts and every number it returns true; no older memory is changed.
-/
import Derived.Test.YtpeojicimmofjaaAwake
import Derived.Test.YtpeojicimmofjaaRLess
import Derived.Test.YtpeojicimmofjaaRCut
namespace Go.Proofs.Ytpeojicimmofjaa
open Go.RowKit
set_option maxRecDepth 100000 in
set_option maxHeartbeats 6400000 in
theorem lawHolds_any (s t : ByteArray) (d : Int) (w : World) :
    Calls Try.prog 4 #[.string s, .string t, .int .i64 d] w fun e w' => e = .returned (.bool true) ∧ Below w.heap.size w w' := by
  obtain ⟨a, ha, hsa⟩ := short_any s 300
  obtain ⟨b, hb, hsb⟩ := short_any t 300
  have SA := Lib.hid hsa
  have SB := Lib.hid hsb
  clear hsa hsb
  go_enter Try.func4, Try.ntmps4
  go_wp2_with fail
  refine (awake_any w).mono ?_
  rintro e w0 ⟨rfl, h0⟩
  go_wp2_with fail
  refine (SA.out w0).mono ?_
  rintro e w0' ⟨rfl, rfl⟩
  go_wp2_with fail
  refine (SB.out w0).mono ?_
  rintro e w0' ⟨rfl, rfl⟩
  obtain ⟨X, hX⟩ : ∃ X, X = low a.data.toList := ⟨_, rfl⟩
  have HX := Lib.hid hX
  clear hX
  go_wp2_with fail
  refine (lower_any a (by omega) w0).mono ?_
  rintro e w1 ⟨rfl, hb1⟩
  rw [← HX.out]
  have h1 := h0.trans (hb1.mono h0.size)
  clear h0 hb1
  go_wp2_with fail
  refine (rlower_any a (by omega) w1).mono ?_
  rintro e w2 ⟨rfl, hb2⟩
  rw [← HX.out]
  have h2 := h1.trans (hb2.mono h1.size)
  clear h1 hb2
  obtain ⟨B1, hB1⟩ : ∃ B1, B1 = sam a.data.toList b.data.toList := ⟨_, rfl⟩
  have HB1 := Lib.hid hB1
  clear hB1
  go_wp2_with fail
  refine (same_any a b (by omega) (by omega) w2).mono ?_
  rintro e w3 ⟨rfl, hb3⟩
  rw [← HB1.out]
  have h3 := h2.trans (hb3.mono h2.size)
  clear h2 hb3
  go_wp2_with fail
  refine (rsame_any a b (by omega) (by omega) w3).mono ?_
  rintro e w4 ⟨rfl, hb4⟩
  rw [← HB1.out]
  have h4 := h3.trans (hb4.mono h3.size)
  clear h3 hb4
  obtain ⟨B2, hB2⟩ : ∃ B2, B2 = und a.data.toList b.data.toList := ⟨_, rfl⟩
  have HB2 := Lib.hid hB2
  clear hB2
  go_wp2_with fail
  refine (under_any a b (by omega) (by omega) w4).mono ?_
  rintro e w5 ⟨rfl, hb5⟩
  rw [← HB2.out]
  have h5 := h4.trans (hb5.mono h4.size)
  clear h4 hb5
  go_wp2_with fail
  refine (runder_any a b (by omega) (by omega) w5).mono ?_
  rintro e w6 ⟨rfl, hb6⟩
  rw [← HB2.out]
  have h6 := h5.trans (hb6.mono h5.size)
  clear h5 hb6
  obtain ⟨C, hC⟩ : ∃ C, C = cutS a.data.toList d := ⟨_, rfl⟩
  have HC := Lib.hid hC
  clear hC
  go_wp2_with fail
  refine (cut_any a (by omega) d w6).mono ?_
  rintro e w7 ⟨rfl, hb7⟩
  rw [← HC.out]
  have h7 := h6.trans (hb7.mono h6.size)
  clear h6 hb7
  go_wp2_with fail
  refine (rcut_any a (by omega) d w7).mono ?_
  rintro e w8 ⟨rfl, hb8⟩
  rw [← HC.out]
  have h8 := h7.trans (hb8.mono h7.size)
  clear h7 hb8
  obtain ⟨D, hD⟩ : ∃ D, D = shr a.data.toList b.data.toList := ⟨_, rfl⟩
  have HD := Lib.hid hD
  clear hD
  go_wp2_with fail
  refine (shared_any a b (by omega) (by omega) w8).mono ?_
  rintro e w9 ⟨rfl, hb9⟩
  rw [← HD.out]
  have h9 := h8.trans (hb9.mono h8.size)
  clear h8 hb9
  go_wp2_with fail
  refine (rshared_any a b (by omega) (by omega) w9).mono ?_
  rintro e wA ⟨rfl, hbA⟩
  rw [← HD.out]
  have hA := h9.trans (hbA.mono h9.size)
  clear h9 hbA
  obtain ⟨E, hE⟩ : ∃ E, E = les a.data.toList b.data.toList := ⟨_, rfl⟩
  have HE := Lib.hid hE
  clear hE
  go_wp2_with fail
  refine (less_any a b (by omega) (by omega) wA).mono ?_
  rintro e wB ⟨rfl, hbB⟩
  rw [← HE.out]
  have hB := hA.trans (hbB.mono hA.size)
  clear hA hbB
  go_wp2_with fail
  refine (rless_any a b (by omega) (by omega) wB).mono ?_
  rintro e wC ⟨rfl, hbC⟩
  rw [← HE.out]
  have hC := hB.trans (hbC.mono hB.size)
  clear hB hbC
  go_wp2
  go_ret
  exact ⟨rfl, hC⟩
end Go.Proofs.Ytpeojicimmofjaa
