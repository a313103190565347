/-
  The walk of the law MessageReads. No older memory is changed.
-/
import Derived.Test.YtljfkjbagebncaaG35
namespace Go.Proofs.Ytljfkjbagebncaa
open Go.RowKit
theorem gl_len {T : Type} (get : Int → T × Int × Int) : ∀ (k : Nat) (a : Int), (gl get k a).1.length ≤ k := by
  intro k
  induction k with
  | zero => intro a; simp [gl]
  | succ k ih =>
    intro a
    simp only [gl]
    split
    · split
      · simp; exact ih _
      · simp
    · simp
theorem mread_len (s : Bs) : (mread s).1.qs.length ≤ 1000000 ∧ (mread s).1.an.length ≤ 1000000 ∧ (mread s).1.au.length ≤ 1000000 ∧ (mread s).1.ex.length ≤ 1000000 := by
  have h0 : (rQ s).1.length ≤ 1000000 := by have := gl_len (qg s) (cnt s 0) 12; have := cnt_lt s 0; unfold rQ; omega
  have hl : ∀ k, (rL s k).length ≤ 1000000 := fun k => by
    unfold rL
    split
    · have := gl_len (gt s) (cnt s (k + 1)) (rA s k).1; have := cnt_lt s (k + 1); omega
    · simp
  unfold mread
  split
  · simp [zeroM]
  · split
    · simp [zeroM]
    · split
      · simp [zeroM]
      · split
        · simp [zeroM]
        · exact ⟨h0, hl 0, hl 1, hl 2⟩
set_option maxRecDepth 100000 in
set_option maxHeartbeats 12800000 in
theorem lmreads_any (s : ByteArray) (w : World) : Calls Try.prog 4 #[.string s] w fun e w' => e = .returned (.bool true) ∧ Below w.heap.size w w' := by
  obtain ⟨t, ht, S⟩ := short_any s 5000
  have HS : Hid (∀ w, Calls Try.prog 13 #[.string s, .int .i64 5000] w fun e w' => e = .returned (.string t) ∧ w = w') := Lib.hid S
  have HM := Lib.hid (fun w => mread_any t (by omega) w)
  have HRM := Lib.hid (fun w => rmread_any t (by omega) w)
  have HH := Lib.hid (fun w => mhead_any t (by omega) w)
  have HRH := Lib.hid (fun w => rmhead_any t (by omega) w)
  have HLEN := Lib.hid (mread_len t.data.toList)
  have HLH : Hid ((mhead t.data.toList).1.qs.length ≤ 1000000 ∧ (mhead t.data.toList).1.an.length ≤ 1000000 ∧ (mhead t.data.toList).1.au.length ≤ 1000000 ∧ (mhead t.data.toList).1.ex.length ≤ 1000000) := Lib.hid (by unfold mhead; split <;> simp [zeroM, rHd])
  have HNH : Hid (∀ w : World, Lay w (mhead t.data.toList).1 nl nl nl nl) := Lib.hid (by intro w; unfold mhead; split <;> exact ⟨rdq_nil _, rdr_nil _, rdr_nil _, rdr_nil _⟩)
  generalize mread t.data.toList = M at HM HRM HLEN
  generalize mhead t.data.toList = D at HH HRH HLH HNH
  obtain ⟨⟨id, r, a, b, d, v, op, cd, qs, an, au, ex⟩, er⟩ := M
  obtain ⟨⟨id', r', a', b', d', v', op', cd', qs', an', au', ex'⟩, er'⟩ := D
  clear S ht
  go_enter Try.func4, Try.ntmps4
  go_wp2_with fail
  refine (mawake_any w).mono ?_
  rintro e w1 ⟨rfl, hb1⟩
  have B1 := Lib.hid hb1
  clear hb1
  go_wp2_with fail
  refine (HS.out _).mono ?_
  rintro e w' ⟨rfl, rfl⟩
  go_wp2_with fail
  refine (HM.out _).mono ?_
  rintro e w2 ⟨q, x, y, z, rfl, hl2, hb2⟩
  have hbx := one_box w2 (.cells (mc id r a b d v op cd q x y z) 26)
  have e2 := B1.out.trans (hb2.mono B1.out.size)
  have B3 := Lib.hid (e2.trans (hbx.mono e2.size))
  have C3 := Lib.hid (Ce.new w2 26 (mc id r a b d v op cd q x y z))
  have L3 := Lib.hid (hl2.below hbx)
  clear hl2 hb2 hbx e2 B1
  go_wp2_with fail
  refine (HRM.out _).mono ?_
  rintro e w4 ⟨q', x', y', z', rfl, hl4, hb4⟩
  have hbx := one_box w4 (.cells (mc id r a b d v op cd q' x' y' z') 26)
  have e4 := B3.out.trans (hb4.mono B3.out.size)
  have B5 := Lib.hid (e4.trans (hbx.mono e4.size))
  have C5 := Lib.hid ((C3.out.below hb4).below hbx)
  have L5 := Lib.hid ((L3.out.below hb4).below hbx)
  have D5 := Lib.hid (Ce.new w4 26 (mc id r a b d v op cd q' x' y' z'))
  have M5 := Lib.hid (hl4.below hbx)
  clear hl4 hb4 hbx e4 B3 C3 L3
  go_wp2_with fail
  refine (HH.out _).mono ?_
  rintro e w5 ⟨rfl, hb5⟩
  have hbx := one_box w5 (.cells (mc id' r' a' b' d' v' op' cd' nl nl nl nl) 26)
  have e5 := B5.out.trans (hb5.mono B5.out.size)
  have B6 := Lib.hid (e5.trans (hbx.mono e5.size))
  have C6 := Lib.hid ((C5.out.below hb5).below hbx)
  have L6 := Lib.hid ((L5.out.below hb5).below hbx)
  have D6 := Lib.hid ((D5.out.below hb5).below hbx)
  have M6 := Lib.hid ((M5.out.below hb5).below hbx)
  have E6 := Lib.hid (Ce.new w5 26 (mc id' r' a' b' d' v' op' cd' nl nl nl nl))
  clear hb5 hbx e5 B5 C5 L5 D5 M5
  go_wp2_with fail
  refine (HRH.out _).mono ?_
  rintro e w6 ⟨rfl, hb6⟩
  have hbx := one_box w6 (.cells (mc id' r' a' b' d' v' op' cd' nl nl nl nl) 26)
  have e6 := B6.out.trans (hb6.mono B6.out.size)
  have B7 := Lib.hid (e6.trans (hbx.mono e6.size))
  have C7 := Lib.hid ((C6.out.below hb6).below hbx)
  have L7 := Lib.hid ((L6.out.below hb6).below hbx)
  have D7 := Lib.hid ((D6.out.below hb6).below hbx)
  have M7 := Lib.hid ((M6.out.below hb6).below hbx)
  have E7 := Lib.hid ((E6.out.below hb6).below hbx)
  have F7 := Lib.hid (Ce.new w6 26 (mc id' r' a' b' d' v' op' cd' nl nl nl nl))
  clear hb6 hbx e6 B6 C6 L6 D6 M6 E6
  go_wp2_with (first | (refine ld12 (.tmp 4) C7.out rfl rfl rfl rfl ?_) | (refine ld12 (.tmp 6) D7.out rfl rfl rfl rfl ?_))
  refine (rmsame_any ⟨id, r, a, b, d, v, op, cd, qs, an, au, ex⟩ HLEN.out.1 HLEN.out.2.1 HLEN.out.2.2.1 HLEN.out.2.2.2 q x y z q' x' y' z' _ L7.out M7.out).mono ?_
  rintro e w8 ⟨rfl, hb8⟩
  have B8 := Lib.hid (B7.out.trans (hb8.mono B7.out.size))
  have E8 := Lib.hid (E7.out.below hb8)
  have F8 := Lib.hid (F7.out.below hb8)
  clear hb8 B7 C7 L7 D7 M7 E7 F7
  go_wp2_with (first | (refine ld12 (.tmp 8) E8.out rfl rfl rfl rfl ?_) | (refine ld12 (.tmp 10) F8.out rfl rfl rfl rfl ?_))
  refine (rmsame_any ⟨id', r', a', b', d', v', op', cd', qs', an', au', ex'⟩ HLH.out.1 HLH.out.2.1 HLH.out.2.2.1 HLH.out.2.2.2 nl nl nl nl nl nl nl nl _ (HNH.out _) (HNH.out _)).mono ?_
  rintro e w9 ⟨rfl, hb9⟩
  have B9 := Lib.hid (B8.out.trans (hb9.mono B8.out.size))
  clear hb9
  go_wp2
  go_ret
  exact ⟨rfl, B9.out⟩
end Go.Proofs.Ytljfkjbagebncaa
