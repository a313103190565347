/-
  The walk of the law ShaSums: for every text it returns true, where the two tables hold their numbers; no older memory is changed.
-/
import Derived.Test.YtiagngggnhdefaaDoorAwake
import Derived.Test.YtiagngggnhdefaaDoorRSum
import Derived.Test.YtiagngggnhdefaaDoorRPoint
import Derived.Test.YtiagngggnhdefaaDoorEqArr
import Derived.Deep.RegionHeld3
namespace Go.Proofs.YtiagngggnhdefaaDoor
open Go.RowKit

theorem one_part (w w2 : World) (t : ByteArray) (h : w2 = w.alloc (.cells #[.string t] 9)) : ∀ k, k < ([t.data.toList] : List (List UInt8)).length → w2.cell? ⟨w.heap.size, k, none⟩ = some (str (([t.data.toList] : List (List UInt8)).getD k [])) := by
  intro k hk
  have h0 : w2.heap[w.heap.size]? = some (.cells #[.string t] 9 (0, 0)) := by rw [h]; exact heap_alloc_new w _
  rw [cell_of_row w2 _ k _ _ _ h0]
  match k, hk with
  | 0, _ => rfl

set_option maxRecDepth 100000 in
set_option maxHeartbeats 1600000 in
theorem lawSums_short (s : ByteArray) (w : World) (hI : InitIn w) (hK : KeysIn w) (hn : s.size ≤ 400) :
    Calls Tryd.prog 6 #[.string s] w fun e w' => e = .returned (.bool true) ∧ Below w.heap.size w w' := by
  have hp := hI.pos
  have HI := Lib.hid hI
  have HK := Lib.hid hK
  clear hI hK
  have hd : decide (400 < (s.size : Int)) = false := by simp; omega
  go_enter Tryd.func6, Tryd.ntmps6
  go_wp2_with fail
  refine (awake_any w HI.out HK.out).mono ?_
  rintro e w1 ⟨rfl, hb1⟩
  go_wp2_with fail
  obtain ⟨t, ht⟩ : ∃ t, t = s := ⟨_, rfl⟩
  rw [← ht]
  have hts : t.size ≤ 400 := by rw [ht]; exact hn
  clear ht
  have hl : t.data.toList.length ≤ 1000000 := by rw [← Lib.size_eq]; omega
  have HL := Lib.hid hl
  have hs1 := hb1.size
  have hb2 : Below w.heap.size w (w1.alloc (.cells #[.string t] 9)) := hb1.alloc (by omega) _
  obtain ⟨w2, hw2⟩ : ∃ w2, w2 = w1.alloc (.cells #[.string t] 9) := ⟨_, rfl⟩
  have hc := one_part w1 w2 t hw2
  have hsz : w2.heap.size = w1.heap.size + 1 := by rw [hw2]; simp
  rw [← hw2] at hb2 ⊢
  refine (sum_some t.data.toList [t.data.toList] (by simp) HL.out w1.heap.size 1 1 rfl w2 (HI.out.below hb2 (by omega)) (HK.out.below hb2 (by omega)) (by omega) hc (by decide)).mono ?_
  rintro e w3 ⟨rfl, hb3⟩
  have hb3' : Below w.heap.size w w3 := hb2.trans (hb3.mono (by omega))
  have hs3 : w1.heap.size ≤ w3.heap.size := by have := hb3.size; omega
  clear hc hw2 hb2 hb3
  go_wp2_with fail
  refine (rsum_any t.data.toList t rfl HL.out w3).mono ?_
  rintro e w4 ⟨rfl, hb4⟩
  have hb4' : Below w.heap.size w w4 := hb3'.trans (hb4.mono (by omega))
  have hs4 : w1.heap.size ≤ w4.heap.size := by have := hb4.size; omega
  have q33 := fun w => eq33 (sumI t.data.toList) (sumI_length _) w
  have g33 := gt33
  clear hb3' hb4
  go_wp2_with fail
  have hb5 : Below w.heap.size w (w4.alloc (.cells #[.string t] 9)) := hb4'.alloc (by omega) _
  obtain ⟨w5, hw5⟩ : ∃ w5, w5 = w4.alloc (.cells #[.string t] 9) := ⟨_, rfl⟩
  have hc := one_part w4 w5 t hw5
  have hsz5 : w5.heap.size = w4.heap.size + 1 := by rw [hw5]; simp
  rw [← hw5] at hb5 ⊢
  refine (point_any _ t.data.toList w5 (sum_some t.data.toList [t.data.toList] (by simp) HL.out w4.heap.size 1 1 rfl w5 (HI.out.below hb5 (by omega)) (HK.out.below hb5 (by omega)) (by omega) hc (by decide))).mono ?_
  rintro e w6 ⟨rfl, hb6⟩
  have hb6' : Below w.heap.size w w6 := hb5.trans (hb6.mono (by omega))
  have hs6 : w1.heap.size ≤ w6.heap.size := by have := hb6.size; omega
  clear hc hw5 hb5 hb6
  go_wp2_with fail
  refine (rpoint_any _ t.data.toList w6 (rsum_any t.data.toList t rfl HL.out w6)).mono ?_
  rintro e w7 ⟨rfl, hb7⟩
  have hb7' : Below w.heap.size w w7 := hb6'.trans (hb7.mono (by omega))
  clear hb6' hb7
  obtain ⟨p, hpn⟩ : ∃ p, p = pntI t.data.toList := ⟨_, rfl⟩
  rw [← hpn]
  go_wp2
  go_ret
  exact ⟨rfl, hb7'⟩
set_option maxRecDepth 100000 in
set_option maxHeartbeats 1600000 in
theorem lawSums_long (s : ByteArray) (w : World) (hI : InitIn w) (hK : KeysIn w) (hn : 400 < s.size) :
    Calls Tryd.prog 6 #[.string s] w fun e w' => e = .returned (.bool true) ∧ Below w.heap.size w w' := by
  have hp := hI.pos
  have HI := Lib.hid hI
  have HK := Lib.hid hK
  clear hI hK
  have hd : decide (400 < (s.size : Int)) = true := by simp; omega
  go_enter Tryd.func6, Tryd.ntmps6
  go_wp2_with fail
  refine (awake_any w HI.out HK.out).mono ?_
  rintro e w1 ⟨rfl, hb1⟩
  go_wp2_with fail
  obtain ⟨t, ht⟩ : ∃ t, t = s.extract 0 400 := ⟨_, rfl⟩
  rw [← ht]
  have hts : t.size ≤ 400 := by rw [ht]; simp; omega
  clear ht
  have hl : t.data.toList.length ≤ 1000000 := by rw [← Lib.size_eq]; omega
  have HL := Lib.hid hl
  have hs1 := hb1.size
  have hb2 : Below w.heap.size w (w1.alloc (.cells #[.string t] 9)) := hb1.alloc (by omega) _
  obtain ⟨w2, hw2⟩ : ∃ w2, w2 = w1.alloc (.cells #[.string t] 9) := ⟨_, rfl⟩
  have hc := one_part w1 w2 t hw2
  have hsz : w2.heap.size = w1.heap.size + 1 := by rw [hw2]; simp
  rw [← hw2] at hb2 ⊢
  refine (sum_some t.data.toList [t.data.toList] (by simp) HL.out w1.heap.size 1 1 rfl w2 (HI.out.below hb2 (by omega)) (HK.out.below hb2 (by omega)) (by omega) hc (by decide)).mono ?_
  rintro e w3 ⟨rfl, hb3⟩
  have hb3' : Below w.heap.size w w3 := hb2.trans (hb3.mono (by omega))
  have hs3 : w1.heap.size ≤ w3.heap.size := by have := hb3.size; omega
  clear hc hw2 hb2 hb3
  go_wp2_with fail
  refine (rsum_any t.data.toList t rfl HL.out w3).mono ?_
  rintro e w4 ⟨rfl, hb4⟩
  have hb4' : Below w.heap.size w w4 := hb3'.trans (hb4.mono (by omega))
  have hs4 : w1.heap.size ≤ w4.heap.size := by have := hb4.size; omega
  have q33 := fun w => eq33 (sumI t.data.toList) (sumI_length _) w
  have g33 := gt33
  clear hb3' hb4
  go_wp2_with fail
  have hb5 : Below w.heap.size w (w4.alloc (.cells #[.string t] 9)) := hb4'.alloc (by omega) _
  obtain ⟨w5, hw5⟩ : ∃ w5, w5 = w4.alloc (.cells #[.string t] 9) := ⟨_, rfl⟩
  have hc := one_part w4 w5 t hw5
  have hsz5 : w5.heap.size = w4.heap.size + 1 := by rw [hw5]; simp
  rw [← hw5] at hb5 ⊢
  refine (point_any _ t.data.toList w5 (sum_some t.data.toList [t.data.toList] (by simp) HL.out w4.heap.size 1 1 rfl w5 (HI.out.below hb5 (by omega)) (HK.out.below hb5 (by omega)) (by omega) hc (by decide))).mono ?_
  rintro e w6 ⟨rfl, hb6⟩
  have hb6' : Below w.heap.size w w6 := hb5.trans (hb6.mono (by omega))
  have hs6 : w1.heap.size ≤ w6.heap.size := by have := hb6.size; omega
  clear hc hw5 hb5 hb6
  go_wp2_with fail
  refine (rpoint_any _ t.data.toList w6 (rsum_any t.data.toList t rfl HL.out w6)).mono ?_
  rintro e w7 ⟨rfl, hb7⟩
  have hb7' : Below w.heap.size w w7 := hb6'.trans (hb7.mono (by omega))
  clear hb6' hb7
  obtain ⟨p, hpn⟩ : ∃ p, p = pntI t.data.toList := ⟨_, rfl⟩
  rw [← hpn]
  go_wp2
  go_ret
  exact ⟨rfl, hb7'⟩
theorem lawSums_any (s : ByteArray) (w : World) (hI : InitIn w) (hK : KeysIn w) :
    Calls Tryd.prog 6 #[.string s] w fun e w' => e = .returned (.bool true) ∧ Below w.heap.size w w' := by
  by_cases h : s.size ≤ 400
  · exact lawSums_short s w hI hK h
  · exact lawSums_long s w hI hK (by omega)
end Go.Proofs.YtiagngggnhdefaaDoor
