/-
  What the document's Same and Under answer, for every two texts; no older memory is changed.
-/
import Derived.Test.YtjoplnkagfkffaaRShared
namespace Go.Proofs.Ytjoplnkagfkffaa
open Go.RowKit
theorem cpl_self (a : List Bs) : cpl a a = a.length := by
  induction a with
  | nil => rfl
  | cons x a ih => simp only [cpl, if_pos, ih, List.length_cons]
theorem cpl_eq (a : List Bs) : ∀ b, cpl a b = a.length → cpl a b = b.length → a = b := by
  intro b h1 h2
  apply List.ext_getElem
  · omega
  · intro i h3 h4
    have := cpl_same a b i (by omega)
    rw [List.getD_eq_getElem?_getD, List.getD_eq_getElem?_getD, List.getElem?_eq_getElem h3, List.getElem?_eq_getElem h4] at this
    simpa using this
theorem name_low {l : Bs} (h : chk l = 0) : low l = enc (labs (low l)) ++ [0] := by
  have h1 := split (low l)
  rw [rest_low, (chk_zero.1 h).1] at h1
  rw [show low [0] = [0] from by decide] at h1
  exact h1.symm
theorem cm_both {a b : Bs} (h1 : chk a = 0) (h2 : chk b = 0) : (cm a b = (labs a).length ∧ cm a b = (labs b).length) ↔ low a = low b := by
  have e1 : (labs a).length = (labs (low a)).reverse.length := by rw [List.length_reverse, labs_low, List.length_map]
  have e2 : (labs b).length = (labs (low b)).reverse.length := by rw [List.length_reverse, labs_low, List.length_map]
  constructor
  · rintro ⟨h3, h4⟩
    have := cpl_eq _ _ (h3.trans e1) (h4.trans e2)
    have h5 := List.reverse_inj.1 this
    rw [name_low h1, name_low h2, h5]
  · intro h
    have e3 : (labs a).length = (labs b).length := by rw [e1, e2, h]
    unfold cm
    rw [h, cpl_self, ← e2]
    exact ⟨e3.symm, rfl⟩
theorem sam_cm {a b : Bs} (h1 : chk a = 0) (h2 : chk b = 0) : sam a b = (decide ((cm a b : Int) = ((labs a).length : Int)) && decide ((cm a b : Int) = ((labs b).length : Int))) := by
  have h := cm_both h1 h2
  rw [Bool.eq_iff_iff]
  unfold sam
  constructor
  · intro h3
    split at h3
    · have h4 : low a = low b := by simpa using h3
      have := h.2 h4
      simp; omega
    · cases h3
  · intro h3
    simp at h3
    have h4 : low a = low b := h.1 ⟨by omega, by omega⟩
    rw [if_pos ⟨by rw [← low_length a, ← low_length b, h4], h1, h2⟩]
    simpa using h4
set_option maxRecDepth 100000 in
set_option maxHeartbeats 1600000 in
theorem rsame_any (a b : ByteArray) (ha : a.size ≤ 1000000) (hb : b.size ≤ 1000000) (w : World) :
    Calls Try.prog 12 #[.string a, .string b] w fun e w' => e = .returned (.bool (sam a.data.toList b.data.toList)) ∧ Below w.heap.size w w' := by
  by_cases h : chk a.data.toList = 0 ∧ chk b.data.toList = 0
  · have HS := Lib.hid (shr_yes h.1 h.2).symm
    have HX := Lib.hid (sam_cm h.1 h.2)
    have HA := Lib.hid (dep_yes h.1)
    have HB := Lib.hid (dep_yes h.2)
    obtain ⟨k, hkk⟩ : ∃ k, k = cm a.data.toList b.data.toList := ⟨_, rfl⟩
    obtain ⟨N, hN⟩ : ∃ N, N = (labs a.data.toList).length := ⟨_, rfl⟩
    obtain ⟨M, hM⟩ : ∃ M, M = (labs b.data.toList).length := ⟨_, rfl⟩
    rw [← hkk] at HS HX
    rw [← hN] at HX HA
    rw [← hM] at HX HB
    clear h hkk hN hM
    by_cases g1 : k = N
    · have q1 : ((k : Int) == (N : Int)) = true := by rw [g1]; simp
      by_cases g2 : k = M
      · have q2 : ((k : Int) == (M : Int)) = true := by rw [g2]; simp
        have R : Hid (true = sam a.data.toList b.data.toList) := Lib.hid (by rw [HX.out]; simp; omega)
        clear g1 g2
        go_enter Try.func12, Try.ntmps12
        go_wp2_with fail
        refine (rshared_any a b ha hb w).mono ?_
        rintro e w1 ⟨rfl, hb1⟩
        rw [HS.out]
        go_wp2_with fail
        refine (rdepth_any a ha w1).mono ?_
        rintro e w2 ⟨rfl, hb2⟩
        rw [← HA.out]
        have hb12 := hb1.trans (hb2.mono hb1.size)
        clear hb1 hb2
        go_wp2_with fail
        refine (rdepth_any b hb w2).mono ?_
        rintro e w3 ⟨rfl, hb3⟩
        rw [← HB.out]
        go_wp2
        go_ret
        exact ⟨ret_b R.out, hb12.trans (hb3.mono hb12.size)⟩
      · have q2 : ((k : Int) == (M : Int)) = false := by simp; omega
        have R : Hid (false = sam a.data.toList b.data.toList) := Lib.hid (by rw [HX.out]; simp; omega)
        clear g1 g2
        go_enter Try.func12, Try.ntmps12
        go_wp2_with fail
        refine (rshared_any a b ha hb w).mono ?_
        rintro e w1 ⟨rfl, hb1⟩
        rw [HS.out]
        go_wp2_with fail
        refine (rdepth_any a ha w1).mono ?_
        rintro e w2 ⟨rfl, hb2⟩
        rw [← HA.out]
        have hb12 := hb1.trans (hb2.mono hb1.size)
        clear hb1 hb2
        go_wp2_with fail
        refine (rdepth_any b hb w2).mono ?_
        rintro e w3 ⟨rfl, hb3⟩
        rw [← HB.out]
        go_wp2
        go_ret
        exact ⟨ret_b R.out, hb12.trans (hb3.mono hb12.size)⟩
    · have q1 : ((k : Int) == (N : Int)) = false := by simp; omega
      have R : Hid (false = sam a.data.toList b.data.toList) := Lib.hid (by rw [HX.out]; simp; omega)
      clear g1
      go_enter Try.func12, Try.ntmps12
      go_wp2_with fail
      refine (rshared_any a b ha hb w).mono ?_
      rintro e w1 ⟨rfl, hb1⟩
      rw [HS.out]
      go_wp2_with fail
      refine (rdepth_any a ha w1).mono ?_
      rintro e w2 ⟨rfl, hb2⟩
      rw [← HA.out]
      have hb12 := hb1.trans (hb2.mono hb1.size)
      clear hb1 hb2
      go_wp2
      go_ret
      exact ⟨ret_b R.out, hb12⟩
  · have HS := Lib.hid (shr_no h).symm
    have R : Hid (false = sam a.data.toList b.data.toList) := Lib.hid (sam_no (fun h2 => h h2.2))
    clear h
    go_enter Try.func12, Try.ntmps12
    go_wp2_with fail
    refine (rshared_any a b ha hb w).mono ?_
    rintro e w1 ⟨rfl, hb1⟩
    rw [HS.out]
    go_wp2
    go_ret
    exact ⟨ret_b R.out, hb1⟩
theorem und_cm {a b : Bs} (h1 : chk a = 0) (h2 : chk b = 0) : ((cm a b : Int) == ((labs b).length : Int)) = und a b := by
  unfold und; rw [if_pos h2, ← shr_yes h1 h2, ← dep_yes h2]
theorem und_out {a b : Bs} (h : ¬ (chk a = 0 ∧ chk b = 0)) : false = und a b := by
  unfold und
  by_cases h2 : chk b = 0
  · rw [if_pos h2, ← shr_no h, ← dep_yes h2]; symm; first | (simp; done) | (simp; omega)
  · rw [if_neg h2]
set_option maxRecDepth 100000 in
set_option maxHeartbeats 1600000 in
theorem runder_any (a b : ByteArray) (ha : a.size ≤ 1000000) (hb : b.size ≤ 1000000) (w : World) :
    Calls Try.prog 11 #[.string a, .string b] w fun e w' => e = .returned (.bool (und a.data.toList b.data.toList)) ∧ Below w.heap.size w w' := by
  by_cases h : chk a.data.toList = 0 ∧ chk b.data.toList = 0
  · have HS := Lib.hid (shr_yes h.1 h.2).symm
    have HX := Lib.hid (und_cm h.1 h.2)
    have HB := Lib.hid (dep_yes h.2)
    clear h
    go_enter Try.func11, Try.ntmps11
    go_wp2_with fail
    refine (rshared_any a b ha hb w).mono ?_
    rintro e w1 ⟨rfl, hb1⟩
    rw [HS.out]
    go_wp2_with fail
    refine (rdepth_any b hb w1).mono ?_
    rintro e w2 ⟨rfl, hb2⟩
    rw [← HB.out]
    go_wp2
    go_ret
    exact ⟨ret_b HX.out, hb1.trans (hb2.mono hb1.size)⟩
  · have HS := Lib.hid (shr_no h).symm
    have R := Lib.hid (und_out h)
    clear h
    go_enter Try.func11, Try.ntmps11
    go_wp2_with fail
    refine (rshared_any a b ha hb w).mono ?_
    rintro e w1 ⟨rfl, hb1⟩
    rw [HS.out]
    go_wp2
    go_ret
    exact ⟨ret_b R.out, hb1⟩
end Go.Proofs.Ytjoplnkagfkffaa
