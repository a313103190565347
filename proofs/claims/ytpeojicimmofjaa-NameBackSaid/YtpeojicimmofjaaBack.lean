/-
  The walk of the law NameBack: for every labels it returns true; no older memory is changed.
-/
import Derived.Test.YtpeojicimmofjaaFew
import Derived.Test.YtpeojicimmofjaaBackMath
namespace Go.Proofs.Ytpeojicimmofjaa
open Go.RowKit
set_option maxRecDepth 100000 in
set_option maxHeartbeats 6400000 in
theorem lawBack_few (arg : Value) (w : World)
    (HF : ∀ w1 : World, Below w.heap.size w w1 → Calls Try.prog 10 #[arg] w1 fun e w' => ∃ v ls, e = .returned v ∧ Own9 w' w1.heap.size v ls ∧ FewOf ls ∧ Below w1.heap.size w1 w') :
    Calls Try.prog 5 #[arg] w fun e w' => e = .returned (.bool true) ∧ Below w.heap.size w w' := by
  have HFF := Lib.hid HF
  clear HF
  go_enter Try.func5, Try.ntmps5
  go_wp2_with fail
  refine (awake_any w).mono ?_
  rintro e w0 ⟨rfl, h0⟩
  go_wp2_with fail
  refine (HFF.out w0 h0).mono ?_
  rintro e w1 ⟨v, ls, rfl, hown, hfew, hb1⟩
  have h1 := h0.trans (hb1.mono h0.size)
  have hl : ls.length ≤ 1000000 := by have := hfew.1; omega
  have HL := Lib.hid hl
  obtain ⟨a, cap, rfl⟩ := row_slice hown
  have R1 := Lib.hid (Own9.rd hown)
  clear hown hfew hb1 h0 hl
  by_cases g : mkE ls = 0
  · obtain ⟨m1, m2, m3⟩ := made g
    have hbk := back m1
    have G := Lib.hid g
    obtain ⟨n, hn⟩ : ∃ n : ByteArray, n = ⟨(mkS ls).toArray⟩ := ⟨_, rfl⟩
    have hnd : n.data.toList = mkS ls := by rw [hn]
    have hns : n.size ≤ 255 := by rw [size_list, hnd]; exact m3
    have M1 : Hid (chk n.data.toList = 0) := Lib.hid (by rw [hnd]; exact m1)
    have M2 : Hid (labs n.data.toList = ls) := Lib.hid (by rw [hnd]; exact m2)
    have K : Hid (psE (txt n.data.toList) = 0 ∧ psS (txt n.data.toList) = n.data.toList) := Lib.hid (by rw [hnd]; exact hbk)
    have HN : Hid (str (mkS ls) = .string n) := Lib.hid (by rw [hn])
    have HD : Hid (dep n.data.toList = (ls.length : Int)) := Lib.hid (by rw [← dep_yes M1.out, M2.out])
    have q : (n.size : Int) ≤ 255 := by omega
    clear g m1 m2 m3 hbk hn hnd
    go_wp2_with fail
    refine (make_any _ ls w1 R1.out HL.out).mono ?_
    rintro e w2 ⟨rfl, hb2⟩
    rw [G.out, HN.out]
    have h2 := h1.trans (hb2.mono h1.size)
    have R2 := Lib.hid (R1.out.below hb2)
    clear h1 hb2
    go_wp2_with fail
    refine (label_yes n (by omega) M1.out w2).mono ?_
    rintro e w3 ⟨v3, rfl, ho3, hb3⟩
    rw [M2.out] at ho3
    have h3 := h2.trans (hb3.mono h2.size)
    have R3 := Lib.hid (R2.out.below hb3)
    have R3' := Lib.hid ho3.rd
    clear h2 hb3 ho3
    go_wp2_with fail
    refine (same_lists _ v3 ls HL.out w3 R3.out R3'.out).mono ?_
    rintro e w4 ⟨rfl, hb4⟩
    have h4 := h3.trans (hb4.mono h3.size)
    clear h3 hb4
    go_wp2_with fail
    refine (text_any n (by omega) w4).mono ?_
    rintro e w5 ⟨rfl, hb5⟩
    have h5 := h4.trans (hb5.mono h4.size)
    clear h4 hb5
    obtain ⟨t, ht⟩ : ∃ t : ByteArray, t = ⟨(txt n.data.toList).toArray⟩ := ⟨_, rfl⟩
    have htd : t.data.toList = txt n.data.toList := by rw [ht]
    have hts : t.size ≤ 1000000 := by rw [size_list, htd]; exact txt_len _
    have HTD := Lib.hid htd
    have HT := Lib.hid ht
    clear ht htd
    rw [← HT.out]
    go_wp2_with fail
    refine (parse_any t hts w5).mono ?_
    rintro e w6 ⟨rfl, hb6⟩
    rw [HTD.out, K.out.1, K.out.2, str_of]
    have h6 := h5.trans (hb6.mono h5.size)
    clear h5 hb6
    go_wp2_with fail
    refine (depth_any n (by omega) w6).mono ?_
    rintro e w7 ⟨rfl, hb7⟩
    rw [HD.out]
    go_wp2
    go_ret
    exact ⟨rfl, h6.trans (hb7.mono h6.size)⟩
  · have hs := mkS_no g
    have q : (mkE ls == 0) = false := by simpa using g
    have q' : (mkE ls != 0) = true := by simpa using g
    have HS := Lib.hid hs
    clear g hs
    go_wp2_with fail
    refine (make_any _ ls w1 R1.out HL.out).mono ?_
    rintro e w2 ⟨rfl, hb2⟩
    rw [HS.out]
    go_wp2
    go_ret
    exact ⟨rfl, h1.trans (hb2.mono h1.size)⟩
end Go.Proofs.Ytpeojicimmofjaa
