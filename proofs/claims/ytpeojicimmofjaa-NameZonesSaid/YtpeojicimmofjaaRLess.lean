/-
  What the document's Less answers, for every two texts; no older memory is changed.
-/
import Derived.Test.YtpeojicimmofjaaRSame
namespace Go.Proofs.Ytpeojicimmofjaa
open Go.RowKit
theorem ltB_low (a b : Bs) (k : Nat) : ltB (labs (low a)) (labs (low b)) k = Op.bytesLess (low (frl (labs a) k)) (low (frl (labs b) k)) := by
  unfold ltB
  rw [labs_low, labs_low, frl_map, frl_map]
theorem frl_ok {l : Bs} {k : Nat} (h : k < (labs l).length) : OkL (frl (labs l) k) := labs_ok l _ (List.mem_of_getElem? (frl_in h))
theorem bl_nil (y : Bs) : Op.bytesLess [] y = !y.isEmpty := by cases y <;> rfl
theorem bl_end (x : Bs) : Op.bytesLess x [] = false := by cases x <;> rfl
theorem les_end1 {a b : Bs} {k : Nat} (h : les a b = Op.bytesLess (low (frl (labs a) k)) (low (frl (labs b) k))) (hk : k = (labs a).length) (hm : k ≤ (labs b).length) : decide ((k : Int) < ((labs b).length : Int)) = les a b := by
  rw [h, ← frl_out (ls := labs a) (by omega), show low [] = [] from rfl, bl_nil]
  by_cases e : k < (labs b).length
  · have h1 := frl_ok e
    have h2 : (low (frl (labs b) k)).length = (frl (labs b) k).length := low_length _
    have h3 := h1.1
    rw [show decide ((k : Int) < ((labs b).length : Int)) = true by simp; omega]
    cases hl : low (frl (labs b) k) with
    | nil => rw [hl] at h2; simp at h2; omega
    | cons _ _ => rfl
  · rw [← frl_out (ls := labs b) (by omega)]
    rw [show decide ((k : Int) < ((labs b).length : Int)) = false by simp; omega]
    rfl
theorem les_end2 {a b : Bs} {k : Nat} (h : les a b = Op.bytesLess (low (frl (labs a) k)) (low (frl (labs b) k))) (hm : k = (labs b).length) : decide ((k : Int) < ((labs b).length : Int)) = les a b := by
  rw [h, ← frl_out (ls := labs b) (by omega), show low [] = [] from rfl, bl_end]
  simp; omega
set_option maxRecDepth 100000 in
set_option maxHeartbeats 1600000 in
theorem rless_no (a b : ByteArray) (ha : a.size ≤ 1000000) (hb : b.size ≤ 1000000) (h : ¬ (chk a.data.toList = 0 ∧ chk b.data.toList = 0)) (w : World) :
    Calls Try.prog 31 #[.string a, .string b] w fun e w' => e = .returned (.bool false) ∧ Below w.heap.size w w' := by
  by_cases h1 : chk a.data.toList = 0
  · have h2 : ¬ chk b.data.toList = 0 := fun e => h ⟨h1, e⟩
    have q : (chk b.data.toList == 0) = false := by simpa using h2
    have q' : (chk b.data.toList != 0) = true := by simpa using h2
    have H1 := Lib.hid h1
    have H2 := Lib.hid h2
    clear h h1 h2
    go_enter Try.func31, Try.ntmps31
    go_wp2_with fail
    refine (rlabels_yes a ha H1.out w).mono ?_
    rintro e w1 ⟨v, rfl, _, hb1⟩
    go_wp2_with fail
    refine (rlabels_no b hb H2.out w1).mono ?_
    rintro e w2 ⟨rfl, hb2⟩
    go_wp2
    go_ret
    exact ⟨rfl, hb1.trans (hb2.mono hb1.size)⟩
  · have q : (chk a.data.toList == 0) = false := by simpa using h1
    have q' : (chk a.data.toList != 0) = true := by simpa using h1
    have H1 := Lib.hid h1
    clear h h1
    have hl : ∀ w, Calls Try.prog 14 #[.string b] w fun e w' => ∃ v x, e = .returned (.tuple #[v, .int .i64 x]) ∧ Below w.heap.size w w' := fun w => by
      by_cases h2 : chk b.data.toList = 0
      · exact (rlabels_yes b hb h2 w).mono fun e w' ⟨v, h1, _, h3⟩ => ⟨v, 0, h1, h3⟩
      · exact (rlabels_no b hb h2 w).mono fun e w' ⟨h1, h3⟩ => ⟨_, _, h1, h3⟩
    have HL := Lib.hid hl
    clear hl
    go_enter Try.func31, Try.ntmps31
    go_wp2_with fail
    refine (rlabels_no a ha H1.out w).mono ?_
    rintro e w1 ⟨rfl, hb1⟩
    go_wp2_with fail
    refine (HL.out w1).mono ?_
    rintro e w2 ⟨v, x, rfl, hb2⟩
    go_wp2
    go_ret
    exact ⟨rfl, hb1.trans (hb2.mono hb1.size)⟩
set_option maxRecDepth 100000 in
set_option maxHeartbeats 3200000 in
theorem rless_yes (a b : ByteArray) (ha : a.size ≤ 1000000) (hb : b.size ≤ 1000000) (h1 : chk a.data.toList = 0) (h2 : chk b.data.toList = 0) (w : World) :
    Calls Try.prog 31 #[.string a, .string b] w fun e w' => e = .returned (.bool (les a.data.toList b.data.toList)) ∧ Below w.heap.size w w' := by
  have hk1 := (cpl_le (labs (low a.data.toList)).reverse (labs (low b.data.toList)).reverse)
  rw [List.length_reverse, List.length_reverse, labs_low_len, labs_low_len] at hk1
  have HS := Lib.hid (shr_yes h1 h2).symm
  have hlb := (les_yes ⟨h1, h2⟩).symm
  rw [ltB_low] at hlb
  obtain ⟨k, hk⟩ : ∃ k, k = cm a.data.toList b.data.toList := ⟨_, rfl⟩
  have hkN : k ≤ (labs a.data.toList).length := by rw [hk]; exact hk1.1
  have hkM : k ≤ (labs b.data.toList).length := by rw [hk]; exact hk1.2
  rw [← hk] at HS hlb
  have E1 := Lib.hid (fun h => les_end1 hlb h hkM)
  have E2 := Lib.hid (les_end2 hlb)
  have HOK1 := Lib.hid (fun h => frl_ok (l := a.data.toList) (k := k) h)
  have HOK2 := Lib.hid (fun h => frl_ok (l := b.data.toList) (k := k) h)
  have H1 := Lib.hid h1
  have H2 := Lib.hid h2
  have HL := Lib.hid hlb
  have hNb := labs_len a ha
  have hMb := labs_len b hb
  clear h1 h2 hk1 hk hlb
  obtain ⟨A, hA⟩ : ∃ A, A = labs a.data.toList := ⟨_, rfl⟩
  obtain ⟨B, hB⟩ : ∃ B, B = labs b.data.toList := ⟨_, rfl⟩
  have HEA := Lib.hid hA
  have HEB := Lib.hid hB
  rw [← hA] at hNb hkN E1 HOK1 HL
  rw [← hB] at hMb hkM E1 E2 HOK2 HL
  clear hA hB
  obtain ⟨N, hN⟩ : ∃ N, N = A.length := ⟨_, rfl⟩
  obtain ⟨M, hM⟩ : ∃ M, M = B.length := ⟨_, rfl⟩
  rw [← hN] at hNb hkN E1 HOK1
  rw [← hM] at hMb hkM E1 E2 HOK2
  have HN := Lib.hid hN
  have HM := Lib.hid hM
  clear hN hM
  by_cases g1 : k = N
  · have q1 : ((k : Int) == (N : Int)) = true := by rw [g1]; simp
    have E := Lib.hid (E1.out g1)
    clear g1
    go_enter Try.func31, Try.ntmps31
    go_wp2_with fail
    refine (rlabels_yes a ha H1.out w).mono ?_
    rintro e w1 ⟨v1, rfl, ho1, hb1⟩
    go_wp2_with fail
    refine (rlabels_yes b hb H2.out w1).mono ?_
    rintro e w2 ⟨v2, rfl, ho2, hb2⟩
    rw [← HEA.out] at ho1
    rw [← HEB.out] at ho2
    have hb12 := hb1.trans (hb2.mono hb1.size)
    obtain ⟨a1, cap1, rfl⟩ := row_slice ho1
    obtain ⟨a2, cap2, rfl⟩ := row_slice ho2
    rw [← HN.out, ← HM.out]
    clear ho1 ho2 hb1 hb2
    go_wp2_with fail
    refine (rshared_any a b ha hb w2).mono ?_
    rintro e w3 ⟨rfl, hb3⟩
    rw [HS.out]
    go_wp2
    go_ret
    exact ⟨ret_b (by first | exact E.out | (have := E.out; simpa using this)), hb12.trans (hb3.mono hb12.size)⟩
  · have q1 : ((k : Int) == (N : Int)) = false := by simp; omega
    by_cases g2 : k = M
    · have q2 : ((k : Int) == (M : Int)) = true := by rw [g2]; simp
      have E := Lib.hid (E2.out g2)
      clear g1 g2
      go_enter Try.func31, Try.ntmps31
      go_wp2_with fail
      refine (rlabels_yes a ha H1.out w).mono ?_
      rintro e w1 ⟨v1, rfl, ho1, hb1⟩
      go_wp2_with fail
      refine (rlabels_yes b hb H2.out w1).mono ?_
      rintro e w2 ⟨v2, rfl, ho2, hb2⟩
      rw [← HEA.out] at ho1
      rw [← HEB.out] at ho2
      have hb12 := hb1.trans (hb2.mono hb1.size)
      have ho1' := ho1.below hb2
      obtain ⟨a1, cap1, rfl⟩ := row_slice ho1
      obtain ⟨a2, cap2, rfl⟩ := row_slice ho2
      rw [← HN.out] at ho1' ⊢
      rw [← HM.out] at ho2 ⊢
      have O1 := Lib.hid ho1'
      have O2 := Lib.hid ho2
      clear ho1 ho2 ho1' hb1 hb2
      go_wp2_with fail
      refine (rshared_any a b ha hb w2).mono ?_
      rintro e w3 ⟨rfl, hb3⟩
      rw [HS.out]
      go_wp2
      go_ret
      exact ⟨ret_b (by first | exact E.out | (have := E.out; simpa using this)), hb12.trans (hb3.mono hb12.size)⟩
    · have q2 : ((k : Int) == (M : Int)) = false := by simp; omega
      have hlt : k < N := by omega
      have hlm : k < M := by omega
      clear g1 g2
      go_enter Try.func31, Try.ntmps31
      go_wp2_with fail
      refine (rlabels_yes a ha H1.out w).mono ?_
      rintro e w1 ⟨v1, rfl, ho1, hb1⟩
      go_wp2_with fail
      refine (rlabels_yes b hb H2.out w1).mono ?_
      rintro e w2 ⟨v2, rfl, ho2, hb2⟩
      rw [← HEA.out] at ho1
      rw [← HEB.out] at ho2
      have hb12 := hb1.trans (hb2.mono hb1.size)
      have ho1' := ho1.below hb2
      obtain ⟨a1, cap1, rfl⟩ := row_slice ho1
      obtain ⟨a2, cap2, rfl⟩ := row_slice ho2
      rw [← HN.out] at ho1' ⊢
      rw [← HM.out] at ho2 ⊢
      have O1 := Lib.hid ho1'
      have O2 := Lib.hid ho2
      clear ho1 ho2 ho1' hb1 hb2
      go_wp2_with fail
      refine (rshared_any a b ha hb w2).mono ?_
      rintro e w3 ⟨rfl, hb3⟩
      rw [HS.out]
      obtain ⟨g1, rfl, hg1, c1⟩ := own_get O1.out (frl_in (ls := A) (i := k) (by rw [← HN.out]; exact hlt))
      obtain ⟨g2, rfl, hg2, c2⟩ := own_get O2.out (frl_in (ls := B) (i := k) (by rw [← HM.out]; exact hlm))
      have d1 : w3.cell? ⟨g1, N - 1 - k, none⟩ = some (.string ⟨(frl A k).toArray⟩) := by rw [HN.out]; exact (hb3.cell (p := ⟨g1, A.length - 1 - k, none⟩) hg1).trans c1
      have d2 : w3.cell? ⟨g2, M - 1 - k, none⟩ = some (.string ⟨(frl B k).toArray⟩) := by rw [HM.out]; exact (hb3.cell (p := ⟨g2, B.length - 1 - k, none⟩) hg2).trans c2
      have hxs : (⟨(frl A k).toArray⟩ : ByteArray).size ≤ 140737488351232 := by
        have := (HOK1.out hlt).2
        show (frl A k).length ≤ _
        omega
      have hys : (⟨(frl B k).toArray⟩ : ByteArray).size ≤ 140737488351232 := by
        have := (HOK2.out hlm).2
        show (frl B k).length ≤ _
        omega
      have hb13 := hb12.trans (hb3.mono hb12.size)
      obtain ⟨x, hx⟩ : ∃ x, x = frl A k := ⟨_, rfl⟩
      obtain ⟨y, hy⟩ : ∃ y, y = frl B k := ⟨_, rfl⟩
      rw [← hx] at d1 hxs HL
      rw [← hy] at d2 hys HL
      clear hx hy c1 c2 hb3 hb12
      have j1 : ((N : Int) - 1 - (k : Int)).toNat = N - 1 - k := by omega
      have j2 : ((M : Int) - 1 - (k : Int)).toNat = M - 1 - k := by omega
      have p1 : (0 : Int) ≤ (N : Int) - 1 - (k : Int) := by omega
      have p2 : (N : Int) - 1 - (k : Int) < (N : Int) := by omega
      have p3 : (0 : Int) ≤ (N : Int) - 1 := by omega
      have p4 : (0 : Int) ≤ (M : Int) - 1 - (k : Int) := by omega
      have p5 : (M : Int) - 1 - (k : Int) < (M : Int) := by omega
      have p6 : (0 : Int) ≤ (M : Int) - 1 := by omega
      have p7 : (k : Int) ≤ (N : Int) - 1 := by omega
      have p8 : (k : Int) ≤ (M : Int) - 1 := by omega
      have p9 : (1 : Int) ≤ (N : Int) := by omega
      have p10 : (1 : Int) ≤ (M : Int) := by omega
      have v1 : IntKind.i64.wrap ((N : Int) - 1) = (N : Int) - 1 := IntWalk.i64_in _ (by omega)
      have v2 : IntKind.i64.wrap ((N : Int) - 1 - (k : Int)) = (N : Int) - 1 - (k : Int) := IntWalk.i64_in _ (by omega)
      have v3 : IntKind.i64.wrap ((M : Int) - 1) = (M : Int) - 1 := IntWalk.i64_in _ (by omega)
      have v4 : IntKind.i64.wrap ((M : Int) - 1 - (k : Int)) = (M : Int) - 1 - (k : Int) := IntWalk.i64_in _ (by omega)
      go_wp2
      go_region_held3 (fun w' => w'.cell? ⟨g1, N - 1 - k, none⟩ = some (.string ⟨x.toArray⟩) ∧ w'.cell? ⟨g2, M - 1 - k, none⟩ = some (.string ⟨y.toArray⟩)) (first | go_keep | (go_split_ands; exact ⟨cell_later (by assumption) (by assumption), cell_later (by assumption) (by assumption)⟩))
        (first | (go_at_call_of 21 (Value.string ⟨x.toArray⟩); refine (rlower_any ⟨x.toArray⟩ hxs _).mono ?_; rintro e w5 ⟨rfl, hb5⟩) | (go_at_call_of 21 (Value.string ⟨y.toArray⟩); refine (rlower_any ⟨y.toArray⟩ hys _).mono ?_; rintro e w6 ⟨rfl, hb6⟩))
      have hbb := chain3 (Below.refl _ _) hb5 hb6
      clear hb5 hb6 j1 j2 p1 p2 p3 p4 p5 p6 p7 p8 p9 p10 v1 v2 v3 v4 d1 d2
      go_wp2
      go_ret
      exact ⟨ret_b HL.out.symm, hb13.trans (hbb.mono hb13.size)⟩
theorem rless_any (a b : ByteArray) (ha : a.size ≤ 1000000) (hb : b.size ≤ 1000000) (w : World) :
    Calls Try.prog 31 #[.string a, .string b] w fun e w' => e = .returned (.bool (les a.data.toList b.data.toList)) ∧ Below w.heap.size w w' := by
  by_cases h : chk a.data.toList = 0 ∧ chk b.data.toList = 0
  · exact rless_yes a b ha hb h.1 h.2 w
  · rw [← les_no h]; exact rless_no a b ha hb h w
end Go.Proofs.Ytpeojicimmofjaa
