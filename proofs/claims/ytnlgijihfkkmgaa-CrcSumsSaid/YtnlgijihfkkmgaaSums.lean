/-
  The walk of the law CrcSums: for any number and any text it returns true; no older memory is changed.
-/
import Derived.Test.YtnlgijihfkkmgaaAwake
namespace Go.Proofs.Ytnlgijihfkkmgaa
open Go.RowKit
set_option maxHeartbeats 800000 in
theorem lawSums_any (c : Int) (h0 : 0 ≤ c) (h1 : c < 4294967296) (s : ByteArray) (w : World) :
    Calls Try.prog 3 #[.int .u32 c, .string s] w fun e w' => e = .returned (.bool true) ∧ Below w.heap.size w w' := by
  obtain ⟨C, rfl⟩ := Int.eq_ofNat_of_zero_le h0
  have hC : Hid (C < 4294967296) := Lib.hid (by omega)
  clear h0 h1
  obtain ⟨t, ht, hsh⟩ := short_any s 2000
  have HT : Hid (t.size ≤ 1000000) := Lib.hid (by omega)
  have HSH : Hid (∀ w : World, Calls Try.prog 9 #[.string s, .int .i64 2000] w fun e w' => e = .returned (.string t) ∧ w = w') := Lib.hid hsh
  clear ht hsh
  go_enter Try.func3, Try.ntmps3
  go_wp2_with fail
  refine (awake_any w).mono ?_
  rintro e w1 ⟨rfl, hb1⟩
  go_wp2_with fail
  refine (HSH.out w1).mono ?_
  rintro e w2 ⟨rfl, rfl⟩
  go_wp2_with fail
  refine (of_one t HT.out w1).mono ?_
  rintro e w2 ⟨rfl, hb2⟩
  have hb2' := hb1.trans (hb2.mono hb1.size)
  clear hb1 hb2
  go_wp2_with fail
  refine (rof_any t HT.out w2).mono ?_
  rintro e w3 ⟨rfl, rfl⟩
  go_wp2_with fail
  refine (add_any C hC.out t HT.out w2).mono ?_
  rintro e w3 ⟨rfl, hb3⟩
  have hb3' := hb2'.trans (hb3.mono hb2'.size)
  clear hb2' hb3
  go_wp2_with fail
  refine (radd_any C hC.out t HT.out w3).mono ?_
  rintro e w4 ⟨rfl, rfl⟩
  go_wp2
  go_ret
  exact ⟨rfl, hb3'⟩
end Go.Proofs.Ytnlgijihfkkmgaa
