/-
  The walk of the law CrcJoins: for any two texts it returns true; no older memory is changed.
-/
import Derived.Test.YtnlgijihfkkmgaaAwake
namespace Go.Proofs.Ytnlgijihfkkmgaa
open Go.RowKit
theorem amt_len (t : ByteArray) (h : t.size ≤ 1000) : Amt (t.size : Int) t.data.toList.length := by
  refine Or.inr (Or.inl ⟨by rw [← Lib.size_eq], ?_⟩)
  rw [← Lib.size_eq]; omega
theorem app_list (s t : ByteArray) : (s ++ t).data.toList = s.data.toList ++ t.data.toList := by simp
set_option maxHeartbeats 1600000 in
theorem lawJoins_any (a b : ByteArray) (w : World) :
    Calls Try.prog 5 #[.string a, .string b] w fun e w' => e = .returned (.bool true) ∧ Below w.heap.size w w' := by
  obtain ⟨s, hs, hsh⟩ := short_any a 1000
  obtain ⟨t, ht, hth⟩ := short_any b 1000
  have HS : Hid (s.size ≤ 1000000) := Lib.hid (by omega)
  have HT : Hid (t.size ≤ 1000000) := Lib.hid (by omega)
  have HTL : Hid (Amt (t.size : Int) t.data.toList.length) := Lib.hid (amt_len t ht)
  have HU : Hid ((s ++ t).size ≤ 1000000) := Lib.hid (by rw [ByteArray.size_append]; omega)
  have hadd : ∀ w, (Op.stringOp .add s t).run Try.prog w = .ok (.string (s ++ t)) w := fun w => run_string_add_sum w s t (by omega)
  have HSH : Hid (∀ w : World, Calls Try.prog 9 #[.string a, .int .i64 1000] w fun e w' => e = .returned (.string s) ∧ w = w') := Lib.hid hsh
  have HTH : Hid (∀ w : World, Calls Try.prog 9 #[.string b, .int .i64 1000] w fun e w' => e = .returned (.string t) ∧ w = w') := Lib.hid hth
  have hts : t.size ≤ 1000 := ht
  obtain ⟨R, hR⟩ : ∃ R, R = cs (s.data.toList ++ t.data.toList) := ⟨_, rfl⟩
  obtain ⟨A, hA⟩ : ∃ A, A = cs s.data.toList := ⟨_, rfl⟩
  obtain ⟨B, hB⟩ : ∃ B, B = cs t.data.toList := ⟨_, rfl⟩
  have HA := Lib.hid hA
  have HB := Lib.hid hB
  have HR := Lib.hid hR
  have al : Hid (A < 4294967296) := Lib.hid (by rw [hA]; exact cs_lt _)
  have bl : Hid (B < 4294967296) := Lib.hid (by rw [hB]; exact cs_lt _)
  have r1 : Hid (stn (8 * t.data.toList.length) A ^^^ B = R) := Lib.hid (by rw [hA, hB, hR]; exact join_cs _ _)
  have r2 : Hid (ad A t.data.toList = R) := Lib.hid (by rw [hA, hR]; exact ad_cs _ _)
  have HAD := Lib.hid hadd
  clear hsh hth hs ht hR hA hB hadd
  obtain ⟨u, hu⟩ : ∃ u, u = s ++ t := ⟨_, rfl⟩
  have r3 : Hid (cs u.data.toList = R) := Lib.hid (by rw [hu, HR.out, app_list])
  rw [← hu] at HU HAD
  clear hu
  go_enter Try.func5, Try.ntmps5
  go_wp2_with fail
  refine (awake_any w).mono ?_
  rintro e w1 ⟨rfl, hb1⟩
  go_wp2_with fail
  refine (HSH.out w1).mono ?_
  rintro e w2 ⟨rfl, rfl⟩
  go_wp2_with fail
  refine (HTH.out w1).mono ?_
  rintro e w2 ⟨rfl, rfl⟩
  have hadd := HAD.out
  go_wp2_with fail
  clear hadd
  refine (of_one u HU.out w1).mono ?_
  rintro e w2 ⟨rfl, hb2⟩
  rw [r3.out]
  have hb2' := hb1.trans (hb2.mono hb1.size)
  clear hb1 hb2
  go_wp2_with fail
  refine (of_one s HS.out w2).mono ?_
  rintro e w3 ⟨rfl, hb3⟩
  rw [← HA.out]
  have hb3' := hb2'.trans (hb3.mono hb2'.size)
  clear hb2' hb3
  go_wp2_with fail
  refine (of_one t HT.out w3).mono ?_
  rintro e w4 ⟨rfl, hb4⟩
  rw [← HB.out]
  have hb4' := hb3'.trans (hb4.mono hb3'.size)
  clear hb3' hb4
  go_wp2_with fail
  refine (join_any A B al.out bl.out (t.size : Int) (by omega) (by omega) t.data.toList.length HTL.out w4).mono ?_
  rintro e w5 ⟨rfl, rfl⟩
  rw [r1.out]
  go_wp2_with fail
  refine (of_one s HS.out w4).mono ?_
  rintro e w5 ⟨rfl, hb5⟩
  rw [← HA.out]
  have hb5' := hb4'.trans (hb5.mono hb4'.size)
  clear hb4' hb5
  go_wp2_with fail
  refine (add_any A al.out t HT.out w5).mono ?_
  rintro e w6 ⟨rfl, hb6⟩
  rw [r2.out]
  have hb6' := hb5'.trans (hb6.mono hb5'.size)
  clear hb5' hb6
  go_wp2_with fail
  refine (of_two s t HS.out HT.out w6).mono ?_
  rintro e w7 ⟨rfl, hb7⟩
  rw [← HR.out]
  have hb7' := hb6'.trans (hb7.mono hb6'.size)
  clear hb6' hb7
  go_wp2_with fail
  refine (add_any 0 (by omega) s HS.out w7).mono ?_
  rintro e w8 ⟨rfl, hb8⟩
  rw [ad_zero, ← HA.out]
  have hb8' := hb7'.trans (hb8.mono hb7'.size)
  clear hb7' hb8
  go_wp2_with fail
  refine (add_any A al.out t HT.out w8).mono ?_
  rintro e w9 ⟨rfl, hb9⟩
  rw [r2.out]
  have hb9' := hb8'.trans (hb9.mono hb8'.size)
  clear hb8' hb9
  go_wp2
  go_ret
  exact ⟨rfl, hb9'⟩
end Go.Proofs.Ytnlgijihfkkmgaa
