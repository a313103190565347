/-
  What Less, Under and Same answer, for every two texts; no older memory is changed.
-/
import Derived.Test.YtjoplnkagfkffaaShared
namespace Go.Proofs.Ytjoplnkagfkffaa
open Go.RowKit
theorem ret_b {a b : Bool} (h : a = b) : Ending.returned (.bool a) = .returned (.bool b) := by rw [h]
def les (a b : Bs) : Bool := if chk a = 0 ∧ chk b = 0 then ltB (labs (low a)) (labs (low b)) (cm a b) else false
theorem les_no {a b : Bs} (h : ¬ (chk a = 0 ∧ chk b = 0)) : false = les a b := by unfold les; rw [if_neg h]
theorem les_yes {a b : Bs} (h : chk a = 0 ∧ chk b = 0) : ltB (labs (low a)) (labs (low b)) (cm a b) = les a b := by unfold les; rw [if_pos h]
theorem cm_le (a b : ByteArray) (ha : a.size ≤ 1000000) : cm a.data.toList b.data.toList ≤ 1000000 := by
  have h := (cpl_le (labs (low a.data.toList)).reverse (labs (low b.data.toList)).reverse).1
  rw [List.length_reverse, labs_low_len] at h
  have := labs_len a ha
  unfold cm
  omega
def und (n z : Bs) : Bool := if chk z = 0 then shr n z == dep z else false
theorem und_no {n z : Bs} (h : ¬ chk z = 0) : false = und n z := by unfold und; rw [if_neg h]
theorem und_yes {n z : Bs} (h : chk z = 0) : (shr n z == dep z) = und n z := by unfold und; rw [if_pos h]
set_option maxRecDepth 100000 in
set_option maxHeartbeats 1600000 in
theorem under_any (a b : ByteArray) (ha : a.size ≤ 1000000) (hb : b.size ≤ 1000000) (w : World) :
    Calls Try.prog 14 #[.string a, .string b] w fun e w' => e = .returned (.bool (und a.data.toList b.data.toList)) ∧ Below w.heap.size w w' := by
  by_cases h : chk b.data.toList = 0
  · have hd := dep_yes h
    have HU := Lib.hid (und_yes (n := a.data.toList) h)
    obtain ⟨d, hdd⟩ : ∃ d, d = dep b.data.toList := ⟨_, rfl⟩
    rw [← hdd] at HU hd
    have q0 : 0 ≤ d := by omega
    have HD := Lib.hid hdd
    clear h hd hdd
    go_enter Try.func14, Try.ntmps14
    go_wp2_with fail
    refine (depth_any b (by omega) w).mono ?_
    rintro e w1 ⟨rfl, hb1⟩
    rw [← HD.out]
    go_wp2_with (go_at_call 25; refine (shared_any a b ha hb w1).mono ?_; rintro e w2 ⟨rfl, hb2⟩)
    go_ret
    exact ⟨ret_b HU.out, hb1.trans (hb2.mono hb1.size)⟩
  · have HD := Lib.hid (dep_no h).symm
    have HU := Lib.hid (und_no (n := a.data.toList) h)
    clear h
    go_enter Try.func14, Try.ntmps14
    go_wp2_with fail
    refine (depth_any b (by omega) w).mono ?_
    rintro e w1 ⟨rfl, hb1⟩
    rw [HD.out]
    go_wp2
    go_ret
    exact ⟨ret_b HU.out, hb1⟩
def sam (a b : Bs) : Bool := if a.length = b.length ∧ chk a = 0 ∧ chk b = 0 then low a == low b else false
theorem sam_no {a b : Bs} (h : ¬ (a.length = b.length ∧ chk a = 0 ∧ chk b = 0)) : false = sam a b := by unfold sam; rw [if_neg h]
theorem sam_yes {a b : Bs} (h : a.length = b.length ∧ chk a = 0 ∧ chk b = 0) : (low a == low b) = sam a b := by unfold sam; rw [if_pos h]
set_option maxRecDepth 100000 in
set_option maxHeartbeats 1600000 in
theorem same_any (a b : ByteArray) (ha : a.size ≤ 1000000) (hb : b.size ≤ 1000000) (w : World) :
    Calls Try.prog 50 #[.string a, .string b] w fun e w' => e = .returned (.bool (sam a.data.toList b.data.toList)) ∧ Below w.heap.size w w' := by
  by_cases h : a.data.toList.length = b.data.toList.length ∧ chk a.data.toList = 0 ∧ chk b.data.toList = 0
  · have HS := Lib.hid (sam_yes h)
    have h1 : a.size = b.size := by rw [size_list, size_list]; exact h.1
    have q : ((a.size : Int) == (b.size : Int)) = true := by rw [h1]; simp
    have HA := Lib.hid h.2.1
    have HB := Lib.hid h.2.2
    clear h h1
    go_enter Try.func50, Try.ntmps50
    go_wp2_with fail
    refine (check_any a (by omega) w).mono ?_
    rintro e w1 ⟨rfl, hb1⟩
    rw [HA.out]
    go_wp2_with fail
    refine (check_any b (by omega) w1).mono ?_
    rintro e w2 ⟨rfl, hb2⟩
    rw [HB.out]
    have hb12 := hb1.trans (hb2.mono hb1.size)
    clear hb1 hb2
    go_wp2_with fail
    refine (lower_any a (by omega) w2).mono ?_
    rintro e w3 ⟨rfl, hb3⟩
    have hb13 := hb12.trans (hb3.mono hb12.size)
    clear hb12 hb3
    go_wp2_with fail
    refine (lower_any b (by omega) w3).mono ?_
    rintro e w4 ⟨rfl, hb4⟩
    go_wp2
    go_ret
    exact ⟨ret_b HS.out, hb13.trans (hb4.mono hb13.size)⟩
  · have HS := Lib.hid (sam_no h)
    by_cases h1 : a.size = b.size
    · have q : ((a.size : Int) == (b.size : Int)) = true := by rw [h1]; simp
      by_cases h2 : chk a.data.toList = 0
      · have h3 : ¬ chk b.data.toList = 0 := fun h3 => h ⟨by rw [← size_list, ← size_list]; exact h1, h2, h3⟩
        have HA := Lib.hid h2
        have q3 : (chk b.data.toList == 0) = false := by simpa using h3
        clear h h1 h2 h3
        go_enter Try.func50, Try.ntmps50
        go_wp2_with fail
        refine (check_any a (by omega) w).mono ?_
        rintro e w1 ⟨rfl, hb1⟩
        rw [HA.out]
        go_wp2_with fail
        refine (check_any b (by omega) w1).mono ?_
        rintro e w2 ⟨rfl, hb2⟩
        go_wp2
        go_ret
        exact ⟨ret_b HS.out, hb1.trans (hb2.mono hb1.size)⟩
      · have q3 : (chk a.data.toList == 0) = false := by simpa using h2
        clear h h1 h2
        go_enter Try.func50, Try.ntmps50
        go_wp2_with fail
        refine (check_any a (by omega) w).mono ?_
        rintro e w1 ⟨rfl, hb1⟩
        go_wp2
        go_ret
        exact ⟨ret_b HS.out, hb1⟩
    · have q : ((a.size : Int) == (b.size : Int)) = false := by simp; omega
      clear h h1
      go_enter Try.func50, Try.ntmps50
      go_wp2
      go_ret
      exact ⟨ret_b HS.out, Below.refl _ _⟩
end Go.Proofs.Ytjoplnkagfkffaa
