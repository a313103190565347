/-
  What the document's Cut answers, for every text and every number; no older memory is changed.
-/
import Derived.Test.YtpeojicimmofjaaRSame
import Derived.Test.YtpeojicimmofjaaRMake
namespace Go.Proofs.Ytpeojicimmofjaa
open Go.RowKit
theorem drop_ok {l : Bs} (h : chk l = 0) (k : Nat) : mkE ((labs l).drop k) = 0 := by
  obtain ⟨h1, h2⟩ := chk_zero.1 h
  have h3 := split l
  rw [h1] at h3
  have h4 := congrArg List.length h3
  have h5 : enc (labs l) = enc ((labs l).take k) ++ enc ((labs l).drop k) := by rw [← enc_append, List.take_append_drop]
  rw [h5] at h4
  simp at h4
  unfold mkE
  rw [if_pos (fun x hx => labs_ok l x (List.mem_of_mem_drop hx)), if_neg (by omega)]
theorem cut_make {l : Bs} (h : chk l = 0) (d : Int) (k : Nat) (hk : k = cutK l d) : mkS ((labs l).drop k) = cutS l d := by
  subst hk
  rw [mkS_zero (drop_ok h _)]
  unfold cutS
  rw [if_pos h]
theorem own_cap {w : World} {B cap n : Nat} {a : Option Addr} {ls : List Bs} (h : Own9 w B (.slice a n cap) ls) : n ≤ cap := by
  rcases h.2 with ⟨e, h0⟩ | ⟨g, cap', cur, e, _, _, hc, _⟩
  · cases e; exact Nat.le_refl _
  · cases e; exact hc
theorem sub_rd {w : World} {B cap N k : Nat} {a : Option Addr} {A : List Bs} (h : Own9 w B (.slice a N cap) A) (hk : k ≤ N) (hN : 0 < N) : Rd w (.slice (if cap = k then a else Option.map (fun x => x.add k) a) (N - k) (cap - k)) (A.drop k) := by
  have hlen := own_len h
  have hcap := own_cap h
  obtain ⟨g, rfl, hg, _⟩ := own_get h (List.getElem?_eq_getElem (show 0 < A.length by omega))
  by_cases e : cap = k
  · rw [if_pos e]
    refine .inr ⟨g, 0, cap - k, ?_, hg, fun j x hj => ?_⟩
    · rw [List.length_drop]; congr 1; omega
    · rw [List.drop_of_length_le (by omega)] at hj; simp at hj
  · rw [if_neg e]
    refine .inr ⟨g, k, cap - k, ?_, hg, fun j x hj => ?_⟩
    · rw [List.length_drop, ← hlen]; unfold Addr.add; simp
      try (intro h0; omega)
    · rw [List.getElem?_drop] at hj
      obtain ⟨g', e', _, hc⟩ := own_get h hj
      cases e'
      exact hc
theorem sub_eq {w : World} {B N : Nat} {a : Option Addr} {A : List Bs} (h : Own9 w B (.slice a N N) A) (hN : 0 < N) : Rd w (.slice a 0 0) (A.drop N) := by
  have := sub_rd h (Nat.le_refl N) hN
  rw [if_pos rfl, Nat.sub_self] at this
  exact this
theorem sub_ne {w : World} {B cap N k : Nat} {a : Option Addr} {A : List Bs} (h : Own9 w B (.slice a N cap) A) (hk : k ≤ N) (hN : 0 < N) (hc : ¬ cap = k) : Rd w (.slice (Option.map (fun x => x.add k) a) (N - k) (cap - k)) (A.drop k) := by
  have := sub_rd h hk hN
  rw [if_neg hc] at this
  exact this
set_option maxRecDepth 100000 in
set_option maxHeartbeats 1600000 in
theorem rcut_no (s : ByteArray) (hs : s.size ≤ 1000000) (d : Int) (hz : ¬ chk s.data.toList = 0) (w : World) :
    Calls Try.prog 27 #[.string s, .int .i64 d] w fun e w' => e = .returned (.string ⟨#[]⟩) ∧ Below w.heap.size w w' := by
  have q : (chk s.data.toList == 0) = false := by simpa using hz
  have q' : (chk s.data.toList != 0) = true := by simpa using hz
  have HZ := Lib.hid hz
  clear hz
  go_enter Try.func27, Try.ntmps27
  go_wp2_with fail
  refine (rlabels_no s hs HZ.out w).mono ?_
  rintro e w1 ⟨rfl, hb1⟩
  go_wp2
  go_ret
  exact ⟨rfl, hb1⟩
set_option maxRecDepth 100000 in
set_option maxHeartbeats 1600000 in
theorem rcut_yes (s : ByteArray) (hs : s.size ≤ 1000000) (d : Int) (hz : chk s.data.toList = 0) (w : World) :
    Calls Try.prog 27 #[.string s, .int .i64 d] w fun e w' => e = .returned (.string ⟨(cutS s.data.toList d).toArray⟩) ∧ Below w.heap.size w w' := by
  have HC : Hid (∀ k, k = cutK s.data.toList d → mkS ((labs s.data.toList).drop k) = cutS s.data.toList d) := Lib.hid (cut_make hz d)
  have HZ := Lib.hid hz
  have hNb := labs_len s hs
  clear hz
  obtain ⟨A, hA⟩ : ∃ A, A = labs s.data.toList := ⟨_, rfl⟩
  obtain ⟨N, hN⟩ : ∃ N, N = A.length := ⟨_, rfl⟩
  have HK : Hid (cutK s.data.toList d = N - d.toNat) := Lib.hid (by unfold cutK; rw [hN, hA])
  have HOK : Hid (∀ x ∈ A, OkL x) := Lib.hid (by rw [hA]; exact labs_ok _)
  rw [← hA] at HC hNb
  rw [← hN] at hNb
  have HA := Lib.hid hA
  have HN := Lib.hid hN
  clear hA hN
  have HM : Hid (∀ k, ∀ x ∈ A.drop k, x.length ≤ 1000000) := Lib.hid (fun k x hx => by have := (HOK.out x (List.mem_of_mem_drop hx)).2; omega)
  have HL : Hid (∀ k, (A.drop k).length ≤ 1000000) := Lib.hid (fun k => by rw [List.length_drop, ← HN.out]; omega)
  by_cases hd : d < 0
  · by_cases hN0 : 0 < N
    · have HC2 : Hid (mkS (A.drop N) = cutS s.data.toList d) := Lib.hid (HC.out N (by rw [HK.out]; omega))
      go_enter Try.func27, Try.ntmps27
      go_wp2_with fail
      refine (rlabels_yes s hs HZ.out w).mono ?_
      rintro e w1 ⟨v, rfl, ho, hb1⟩
      rw [← HA.out] at ho
      obtain ⟨a, cap, rfl⟩ := row_slice ho
      rw [← HN.out] at ho ⊢
      have hcap := own_cap ho
      by_cases hcc : cap = N
      · obtain rfl : cap = N := hcc
        have HO := Lib.hid (sub_eq ho hN0)
        clear ho
        go_wp2_with fail
        refine (rmake_any _ _ _ HO.out (HL.out _) (HM.out _)).mono ?_
        rintro e w2 ⟨rfl, hb2⟩
        rw [HC2.out]
        go_wp2
        go_ret
        exact ⟨rfl, hb1.trans (hb2.mono hb1.size)⟩
      · have HO := Lib.hid (sub_ne ho (Nat.le_refl N) hN0 hcc)
        rw [Nat.sub_self] at HO
        clear ho
        go_wp2_with fail
        refine (rmake_any _ _ _ HO.out (HL.out _) (HM.out _)).mono ?_
        rintro e w2 ⟨rfl, hb2⟩
        rw [HC2.out]
        go_wp2
        go_ret
        exact ⟨rfl, hb1.trans (hb2.mono hb1.size)⟩
    · have HC2 : Hid (mkS A = cutS s.data.toList d) := Lib.hid (HC.out 0 (by rw [HK.out]; omega))
      have q : decide ((0 : Int) < (N : Int)) = false := by simp; omega
      go_enter Try.func27, Try.ntmps27
      go_wp2_with fail
      refine (rlabels_yes s hs HZ.out w).mono ?_
      rintro e w1 ⟨v, rfl, ho, hb1⟩
      rw [← HA.out] at ho
      obtain ⟨a, cap, rfl⟩ := row_slice ho
      rw [← HN.out] at ho ⊢
      have HO := Lib.hid ho.rd
      clear ho
      go_wp2_with fail
      refine (rmake_any _ _ _ HO.out (HL.out 0) (HM.out 0)).mono ?_
      rintro e w2 ⟨rfl, hb2⟩
      rw [HC2.out]
      go_wp2
      go_ret
      exact ⟨rfl, hb1.trans (hb2.mono hb1.size)⟩
  · have qd : decide (d < 0) = false := by simp; omega
    by_cases hN0 : d < (N : Int)
    · by_cases hd0 : d = 0
      · subst hd0
        have hN0 : 0 < N := by omega
        clear hd qd
        have HC2 : Hid (mkS (A.drop N) = cutS s.data.toList 0) := Lib.hid (HC.out N (by rw [HK.out]; omega))
        go_enter Try.func27, Try.ntmps27
        go_wp2_with fail
        refine (rlabels_yes s hs HZ.out w).mono ?_
        rintro e w1 ⟨v, rfl, ho, hb1⟩
        rw [← HA.out] at ho
        obtain ⟨a, cap, rfl⟩ := row_slice ho
        rw [← HN.out] at ho ⊢
        have hcap := own_cap ho
        by_cases hcc : cap = N
        · obtain rfl : cap = N := hcc
          have HO := Lib.hid (sub_eq ho hN0)
          clear ho
          go_wp2_with fail
          refine (rmake_any _ _ _ HO.out (HL.out _) (HM.out _)).mono ?_
          rintro e w2 ⟨rfl, hb2⟩
          rw [HC2.out]
          go_wp2
          go_ret
          exact ⟨rfl, hb1.trans (hb2.mono hb1.size)⟩
        · have HO := Lib.hid (sub_ne ho (Nat.le_refl N) hN0 hcc)
          rw [Nat.sub_self] at HO
          clear ho
          go_wp2_with fail
          refine (rmake_any _ _ _ HO.out (HL.out _) (HM.out _)).mono ?_
          rintro e w2 ⟨rfl, hb2⟩
          rw [HC2.out]
          go_wp2
          go_ret
          exact ⟨rfl, hb1.trans (hb2.mono hb1.size)⟩
      · obtain ⟨m, rfl⟩ := Int.eq_ofNat_of_zero_le (show 0 ≤ d by omega)
        have hmN : m < N := by omega
        have HC2 : Hid (mkS (A.drop (N - m)) = cutS s.data.toList (m : Int)) := Lib.hid (HC.out (N - m) (by rw [HK.out]; omega))
        have q5 : (0 : Int) ≤ (N : Int) - (m : Int) := by omega
        have q6 : (m : Int) ≤ (N : Int) := by omega
        have q7 : ((N : Int) - (m : Int)).toNat = N - m := by omega
        have hm0 : 0 < m := by omega
        clear hd qd hd0
        go_enter Try.func27, Try.ntmps27
        go_wp2_with fail
        refine (rlabels_yes s hs HZ.out w).mono ?_
        rintro e w1 ⟨v, rfl, ho, hb1⟩
        rw [← HA.out] at ho
        obtain ⟨a, cap, rfl⟩ := row_slice ho
        rw [← HN.out] at ho ⊢
        have hcap := own_cap ho
        have hcc : ¬ cap = N - m := by omega
        have HO := Lib.hid (sub_ne ho (show N - m ≤ N by omega) (by omega) hcc)
        clear ho
        go_wp2_with fail
        refine (rmake_any _ _ _ HO.out (HL.out _) (HM.out _)).mono ?_
        rintro e w2 ⟨rfl, hb2⟩
        rw [HC2.out]
        go_wp2
        go_ret
        exact ⟨rfl, hb1.trans (hb2.mono hb1.size)⟩
    · have HC2 : Hid (mkS A = cutS s.data.toList d) := Lib.hid (HC.out 0 (by rw [HK.out]; omega))
      have q : decide (d < (N : Int)) = false := by simp; omega
      go_enter Try.func27, Try.ntmps27
      go_wp2_with fail
      refine (rlabels_yes s hs HZ.out w).mono ?_
      rintro e w1 ⟨v, rfl, ho, hb1⟩
      rw [← HA.out] at ho
      obtain ⟨a, cap, rfl⟩ := row_slice ho
      rw [← HN.out] at ho ⊢
      have HO := Lib.hid ho.rd
      clear ho
      go_wp2_with fail
      refine (rmake_any _ _ _ HO.out (HL.out 0) (HM.out 0)).mono ?_
      rintro e w2 ⟨rfl, hb2⟩
      rw [HC2.out]
      go_wp2
      go_ret
      exact ⟨rfl, hb1.trans (hb2.mono hb1.size)⟩
theorem rcut_any (s : ByteArray) (hs : s.size ≤ 1000000) (d : Int) (w : World) :
    Calls Try.prog 27 #[.string s, .int .i64 d] w fun e w' => e = .returned (.string ⟨(cutS s.data.toList d).toArray⟩) ∧ Below w.heap.size w w' := by
  by_cases hz : chk s.data.toList = 0
  · exact rcut_yes s hs d hz w
  · rw [cutS_no hz]; exact rcut_no s hs d hz w
end Go.Proofs.Ytpeojicimmofjaa
