/-
  The walk of the law NameTexts: for every two texts it returns true; no older memory is changed. It asks that the table of powers of ten reads as it was laid.
-/
import Derived.Test.YtpeojicimmofjaaDoorRParse
namespace Go.Proofs.YtpeojicimmofjaaDoor
open Go.RowKit
set_option maxRecDepth 100000 in
set_option maxHeartbeats 6400000 in
theorem lawTexts_any (s t : ByteArray) (w : World) (htab : Lib.TabIs Tryd.prog w "internal/strconv.uint64pow10" .u64 Lib.pow10Tab) :
    Calls Tryd.prog 3 #[.string s, .string t] w fun e w' => e = .returned (.bool true) ∧ Below w.heap.size w w' := by
  have HT := Lib.hid (Lib.tabBelow_of_tabIs htab)
  obtain ⟨a, ha, hsa⟩ := short_any s 300
  obtain ⟨b, hb, hsb⟩ := short_any t 600
  have SA := Lib.hid hsa
  have SB := Lib.hid hsb
  clear hsa hsb htab
  go_enter Tryd.func3, Tryd.ntmps3
  go_wp2_with fail
  refine (awake_any w).mono ?_
  rintro e w0 ⟨rfl, h0⟩
  go_wp2_with fail
  refine (SA.out w0).mono ?_
  rintro e w0' ⟨rfl, rfl⟩
  go_wp2_with fail
  refine (SB.out w0).mono ?_
  rintro e w0' ⟨rfl, rfl⟩
  obtain ⟨X, hX⟩ : ∃ X : ByteArray, X = ⟨(psS b.data.toList).toArray⟩ := ⟨_, rfl⟩
  obtain ⟨E, hE⟩ : ∃ E, E = psE b.data.toList := ⟨_, rfl⟩
  obtain ⟨T, hT⟩ : ∃ T : ByteArray, T = ⟨(txt a.data.toList).toArray⟩ := ⟨_, rfl⟩
  have HX : Hid (str (psS b.data.toList) = .string X) := Lib.hid (by rw [hX])
  have HE := Lib.hid hE
  have HTX : Hid (str (txt a.data.toList) = .string T) := Lib.hid (by rw [hT])
  have HTX2 : Hid ((⟨(txt a.data.toList).toArray⟩ : ByteArray) = T) := Lib.hid hT.symm
  clear hX hE hT
  go_wp2_with fail
  refine (parse_any b (by omega) w0).mono ?_
  rintro e w1 ⟨rfl, hb1⟩
  rw [HX.out, ← HE.out]
  have h1 := h0.trans (hb1.mono h0.size)
  clear h0 hb1
  go_wp2_with fail
  refine (rparse_any b (by omega) w1).mono ?_
  rintro e w2 ⟨rfl, hb2⟩
  rw [HX.out, ← HE.out]
  have h2 := h1.trans (hb2.mono h1.size)
  clear h1 hb2
  go_wp2_with fail
  refine (text_any a (by omega) w2).mono ?_
  rintro e w3 ⟨rfl, hb3⟩
  rw [HTX2.out]
  have h3 := h2.trans (hb3.mono h2.size)
  clear h2 hb3
  go_wp2_with fail
  refine (rtext_any a (by omega) w3 (Lib.tabBelow_of_tabIs (HT.out _ h3))).mono ?_
  rintro e w4 ⟨rfl, hb4⟩
  rw [HTX.out]
  have h4 := h3.trans (hb4.mono h3.size)
  clear h3 hb4
  go_wp2
  go_ret
  exact ⟨rfl, h4⟩
end Go.Proofs.YtpeojicimmofjaaDoor
