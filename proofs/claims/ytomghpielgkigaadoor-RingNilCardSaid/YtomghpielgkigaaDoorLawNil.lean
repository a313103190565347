/-
  The law RingNil: a ring of none.
-/
import Derived.Test.YtomghpielgkigaaDoorAwake14
namespace Go.Proofs.YtomghpielgkigaaDoor
open Go.RowKit
theorem ringL_nil : ringL [] = [] := List.eq_nil_of_length_eq_zero (by rw [ringL_length, ndL_nil]; rfl)
theorem nx_nil (s : ByteArray) : nx s [] = [] := List.Perm.eq_nil (ndL_nil ▸ nx_perm s [])
theorem al_nil (s : ByteArray) (A : List Int) : al s [] A = none := by rw [al_find, nx_nil]; rfl
theorem ri_none (w : World) : Ri w (.pointer none) [] := .inl ⟨rfl, ringL_nil⟩
theorem ri_zero {w : World} {b : Nat} (h : Ce w b 41 #[.slice none 0 0]) : Ri w (ptr b) [] :=
  .inr ⟨b, _, rfl, h, id, by rw [ringL_nil]; exact ⟨RdX.nil _, fun _ _ _ _ _ h => absurd rfl h⟩⟩
theorem rdx_none0 {w : World} {v : Value} (h : RdX elI w v []) : ∃ a cap, v = .slice a 0 cap := let ⟨a, c, e, _, _⟩ := h.shape; ⟨a, c, e⟩
set_option maxRecDepth 100000 in
set_option maxHeartbeats 1600000 in
theorem lawNil_any {w : World} (hT : Tab w) (s : ByteArray) (hs : s.size ≤ 140737488355328) : Calls Tryd.prog 5 #[.string s] w fun e w' => e = .returned (.bool true) ∧ Below w.heap.size w w' := by
  have HT := Lib.hid hT
  have HSZ := Lib.hid hs
  clear hT hs
  go_enter Tryd.func5, Tryd.ntmps5
  go_upto_region 3 with fail
  have hk := Ce.new w 41 #[.slice none 0 0]
  have hb := one_new w (.cells #[.slice none 0 0] 41)
  obtain ⟨R, hR⟩ : ∃ R, R = w.heap.size := ⟨_, rfl⟩
  rw [← hR] at hk ⊢
  generalize w.alloc _ = w1 at *
  have HZ := Lib.hid (ri_zero hk)
  have HB := Lib.hid hb
  have H1 := Lib.hid (ri_owner (HT.out.below hb) (ri_none w1) s HSZ.out)
  rw [ow_nil] at H1
  clear hk hb hR
  go_wp2_with fail
  refine H1.out.mono ?_
  rintro e w2 ⟨rfl, hb2⟩
  have HB2 := Lib.hid (HB.out.trans (hb2.mono HB.out.size))
  have HZ2 := Lib.hid (HZ.out.below hb2)
  have H2 := Lib.hid (ri_owner (HT.out.below HB2.out) HZ2.out s HSZ.out)
  rw [ow_nil] at H2
  clear hb2
  go_wp2_with fail
  refine H2.out.mono ?_
  rintro e w3 ⟨rfl, hb3⟩
  have HB3 := Lib.hid (HB2.out.trans (hb3.mono HB2.out.size))
  have HZ3 := Lib.hid (HZ2.out.below hb3)
  clear hb3
  go_wp2_with fail
  refine (atNil_any w3).mono ?_
  rintro e w4 ⟨rfl, rfl⟩
  go_wp2_with fail
  have kb := one_new w4 (.cells #[it 1] 3)
  refine (ri_alive ((HT.out.below HB3.out).below kb) (ri_none _) s HSZ.out (rd_arr (M := [1]) (Ce.new w4 3 _) (by decide)) (by decide)).mono ?_
  rw [al_nil]
  rintro e w4' ⟨rfl, hb4⟩
  have hb4 := kb.trans (hb4.mono kb.size)
  have HB4 := Lib.hid (HB3.out.trans (hb4.mono HB3.out.size))
  have HZ4 := Lib.hid (HZ3.out.below hb4)
  have HA := Lib.hid (awake_any (HT.out.below HB4.out))
  clear kb hb4
  go_wp2_with fail
  refine HA.out.mono ?_
  rintro e w5 ⟨rfl, hb5⟩
  have HB5 := Lib.hid (HB4.out.trans (hb5.mono HB4.out.size))
  have HZ5 := Lib.hid (HZ4.out.below hb5)
  have HL1 := Lib.hid (ri_len (ri_none w5))
  have HL2 := Lib.hid (ri_len HZ5.out)
  have HN := Lib.hid (ri_nodes (ri_none w5))
  rw [ndL_nil] at HL1 HL2 HN
  clear hb5
  go_wp2_with fail
  refine HL1.out.mono ?_
  rintro e w6 ⟨rfl, rfl⟩
  go_wp2_with fail
  refine HL2.out.mono ?_
  rintro e w6 ⟨rfl, rfl⟩
  go_wp2_with fail
  refine HN.out.mono ?_
  rintro e w6 ⟨v6, rfl, hr6, hb6⟩
  obtain ⟨a6, c6, rfl⟩ := rdx_none0 hr6
  have HB6 := Lib.hid (HB5.out.trans (hb6.mono HB5.out.size))
  have HX := Lib.hid (ri_next (HT.out.below HB6.out) (ri_none w6) s HSZ.out 5)
  rw [nx_nil] at HX
  clear hr6 hb6
  go_wp2_with fail
  refine HX.out.mono ?_
  rintro e w7 ⟨v7, rfl, hr7, hb7⟩
  obtain ⟨a7, c7, rfl⟩ := rdx_none0 (show RdX elI w7 v7 [] from hr7)
  have HB7 := Lib.hid (HB6.out.trans (hb7.mono HB6.out.size))
  clear hr7 hb7
  go_wp2
  go_ret
  exact ⟨rfl, HB7.out⟩
end Go.Proofs.YtomghpielgkigaaDoor
