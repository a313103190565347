/-
  What the document's Shared answers, for every two texts; no older memory is changed.
-/
import Derived.Test.YtjoplnkagfkffaaLess
import Derived.Test.YtjoplnkagfkffaaRLower
import Derived.Deep.RegionHeld3
import Derived.WalkSpells
namespace Go.Proofs.Ytjoplnkagfkffaa
open Go.RowKit
theorem frl_map (ls : List Bs) (k : Nat) : frl (ls.map low) k = low (frl ls k) := by
  unfold frl
  rw [List.getD_eq_getElem?_getD, List.getD_eq_getElem?_getD, ← List.map_reverse, List.getElem?_map]
  cases ls.reverse[k]? <;> rfl
theorem eqB_low (a b : Bs) (k : Nat) : eqB (labs (low a)) (labs (low b)) k = (low (frl (labs a) k) == low (frl (labs b) k)) := by
  unfold eqB
  rw [labs_low, labs_low, frl_map, frl_map]
theorem own_get {w : World} {B cap n j : Nat} {a : Option Addr} {ls : List Bs} {x : Bs} (h : Own9 w B (.slice a n cap) ls) (hx : ls[j]? = some x) : ∃ g, a = some ⟨g, 0, none⟩ ∧ g < w.heap.size ∧ w.cell? ⟨g, j, none⟩ = some (.string ⟨x.toArray⟩) := by
  have hc := @World.ownsRow.cells w B 9 1 _ ls.length _ h
  rcases h.2 with ⟨e, h0⟩ | ⟨g, cap', cur, e, hb, hg, _⟩
  · have : ls = [] := List.length_eq_zero_iff.1 h0
    subst this
    simp at hx
  · cases e
    refine ⟨g, rfl, (Array.getElem?_eq_some_iff.1 hg).1, ?_⟩
    have := hc (g := g) rfl j (str x) (by simp [hx])
    rw [show (⟨g, 0, none⟩ : Addr).add j = ⟨g, j, none⟩ by unfold Addr.add; split <;> simp_all] at this
    exact this
theorem own_len {w : World} {B cap n : Nat} {a : Option Addr} {ls : List Bs} (h : Own9 w B (.slice a n cap) ls) : n = ls.length := by
  rcases h.2 with ⟨e, h0⟩ | ⟨g, cap', cur, e, _⟩
  · cases e; exact h0.symm
  · cases e; rfl
set_option maxRecDepth 100000 in
set_option maxHeartbeats 1600000 in
theorem rshared_no (a b : ByteArray) (ha : a.size ≤ 1000000) (hb : b.size ≤ 1000000) (h : ¬ (chk a.data.toList = 0 ∧ chk b.data.toList = 0)) (w : World) :
    Calls Try.prog 20 #[.string a, .string b] w fun e w' => e = .returned (.int .i64 (-1)) ∧ Below w.heap.size w w' := by
  by_cases h1 : chk a.data.toList = 0
  · have h2 : ¬ chk b.data.toList = 0 := fun e => h ⟨h1, e⟩
    have q : (chk b.data.toList == 0) = false := by simpa using h2
    have q' : (chk b.data.toList != 0) = true := by simpa using h2
    have H1 := Lib.hid h1
    have H2 := Lib.hid h2
    clear h h1 h2
    go_enter Try.func20, Try.ntmps20
    go_wp2_with fail
    refine (rlabels_yes a ha H1.out w).mono ?_
    rintro e w1 ⟨v, rfl, _, hb1⟩
    go_wp2_with fail
    refine (rlabels_no b hb H2.out w1).mono ?_
    rintro e w2 ⟨rfl, hb2⟩
    go_wp2
    go_ret
    exact ⟨rfl, hb1.trans (hb2.mono hb1.size)⟩
  · have q : (chk a.data.toList == 0) = false := by simpa using h1
    have q' : (chk a.data.toList != 0) = true := by simpa using h1
    have H1 := Lib.hid h1
    clear h h1
    have hl : ∃ v x, ∀ w, Calls Try.prog 35 #[.string b] w fun e w' => ∃ v x, e = .returned (.tuple #[v, .int .i64 x]) ∧ Below w.heap.size w w' := ⟨0, 0, fun w => by
      by_cases h2 : chk b.data.toList = 0
      · exact (rlabels_yes b hb h2 w).mono fun e w' ⟨v, h1, _, h3⟩ => ⟨v, 0, h1, h3⟩
      · exact (rlabels_no b hb h2 w).mono fun e w' ⟨h1, h3⟩ => ⟨_, _, h1, h3⟩⟩
    obtain ⟨_, _, hl⟩ := hl
    have HL := Lib.hid hl
    clear hl
    go_enter Try.func20, Try.ntmps20
    go_wp2_with fail
    refine (rlabels_no a ha H1.out w).mono ?_
    rintro e w1 ⟨rfl, hb1⟩
    go_wp2_with fail
    refine (HL.out w1).mono ?_
    rintro e w2 ⟨v, x, rfl, hb2⟩
    go_wp2
    go_ret
    exact ⟨rfl, hb1.trans (hb2.mono hb1.size)⟩
theorem chain3 {w2 wr w5 w6 : World} (h : Below w2.heap.size w2 wr) (h5 : Below wr.drew.heap.size wr.drew w5) (h6 : Below w5.heap.size w5 w6) : Below w2.heap.size w2 w6 := by
  have h5' := h.trans ((below_drew h5).mono h.size)
  exact h5'.trans (h6.mono h5'.size)
set_option maxRecDepth 100000 in
set_option maxHeartbeats 3200000 in
theorem rshared_yes (a b : ByteArray) (ha : a.size ≤ 1000000) (hb : b.size ≤ 1000000) (h1 : chk a.data.toList = 0) (h2 : chk b.data.toList = 0) (w : World) :
    Calls Try.prog 20 #[.string a, .string b] w fun e w' => e = .returned (.int .i64 (cm a.data.toList b.data.toList : Int)) ∧ Below w.heap.size w w' := by
  have H1 := Lib.hid h1
  have H2 := Lib.hid h2
  clear h1 h2
  go_enter Try.func20, Try.ntmps20
  go_wp2_with fail
  refine (rlabels_yes a ha H1.out w).mono ?_
  rintro e w1 ⟨v1, rfl, ho1, hb1⟩
  go_wp2_with fail
  refine (rlabels_yes b hb H2.out w1).mono ?_
  rintro e w2 ⟨v2, rfl, ho2, hb2⟩
  have ho1' := ho1.below hb2
  have hb12 := hb1.trans (hb2.mono hb1.size)
  obtain ⟨a1, cap1, rfl⟩ := row_slice ho1
  obtain ⟨a2, cap2, rfl⟩ := row_slice ho2
  have hNb := labs_len a ha
  have hMb := labs_len b hb
  obtain ⟨A, hA⟩ : ∃ A, A = labs a.data.toList := ⟨_, rfl⟩
  obtain ⟨B, hB⟩ : ∃ B, B = labs b.data.toList := ⟨_, rfl⟩
  have HLA : Hid (labs (low a.data.toList) = A.map low) := Lib.hid (by rw [labs_low, hA])
  have HLB : Hid (labs (low b.data.toList) = B.map low) := Lib.hid (by rw [labs_low, hB])
  have HEA := Lib.hid hA.symm
  have HEB := Lib.hid hB.symm
  have HOK1 : Hid (∀ x ∈ A, OkL x) := Lib.hid (by rw [hA]; exact labs_ok _)
  have HOK2 : Hid (∀ x ∈ B, OkL x) := Lib.hid (by rw [hB]; exact labs_ok _)
  rw [← hA] at ho1' hNb ⊢
  rw [← hB] at ho2 hMb ⊢
  obtain ⟨N, hN⟩ : ∃ N, N = A.length := ⟨_, rfl⟩
  obtain ⟨M, hM⟩ : ∃ M, M = B.length := ⟨_, rfl⟩
  rw [← hN] at ho1' hNb ⊢
  rw [← hM] at ho2 hMb ⊢
  have O1 := Lib.hid ho1'
  have O2 := Lib.hid ho2
  have HN := Lib.hid hN
  have HM := Lib.hid hM
  have HB12 := Lib.hid hb12
  clear ho1 hb1 hb2 ho1' ho2 hA hB hN hM hb12
  go_wp2
  have HCM : Hid (cm a.data.toList b.data.toList = cpl (labs (low a.data.toList)).reverse (labs (low b.data.toList)).reverse) := Lib.hid rfl
  have HLN : Hid ((labs (low a.data.toList)).length = N) := Lib.hid (by rw [HLA.out, List.length_map, HN.out])
  have HLM : Hid ((labs (low b.data.toList)).length = M) := Lib.hid (by rw [HLB.out, List.length_map, HM.out])
  go_loopw [9] (fun i wr => ∃ k : Nat, k ≤ N ∧ k ≤ M ∧ i = .int .i64 k ∧ (∀ j, j < k → (labs (low a.data.toList)).reverse.getD j [] = (labs (low b.data.toList)).reverse.getD j []) ∧ Below w2.heap.size w2 wr) (fun i _ => N - (intOf i).toNat)
  case atStart => exact ⟨0, by omega, by omega, rfl, fun j hj => absurd hj (by omega), Below.refl _ _⟩
  case round =>
    obtain ⟨k, hkN, hkM, rfl, hsame, hbr⟩ := hrel
    have HS := Lib.hid hsame
    clear hsame
    by_cases hlt : k < N
    · have q1 : decide ((k : Int) < (N : Int)) = true := by simp; omega
      by_cases hlm : k < M
      · have q2 : decide ((k : Int) < (M : Int)) = true := by simp; omega
        obtain ⟨g1, rfl, hg1, c1⟩ := own_get O1.out (frl_in (ls := A) (i := k) (by rw [← HN.out]; exact hlt))
        obtain ⟨g2, rfl, hg2, c2⟩ := own_get O2.out (frl_in (ls := B) (i := k) (by rw [← HM.out]; exact hlm))
        have d1 : wr.cell? ⟨g1, N - 1 - k, none⟩ = some (.string ⟨(frl A k).toArray⟩) := by rw [HN.out]; exact (hbr.cell (p := ⟨g1, A.length - 1 - k, none⟩) hg1).trans c1
        have d2 : wr.cell? ⟨g2, M - 1 - k, none⟩ = some (.string ⟨(frl B k).toArray⟩) := by rw [HM.out]; exact (hbr.cell (p := ⟨g2, B.length - 1 - k, none⟩) hg2).trans c2
        have hxs : (⟨(frl A k).toArray⟩ : ByteArray).size ≤ 140737488351232 := by
          have := (HOK1.out _ (List.mem_of_getElem? (frl_in (ls := A) (i := k) (by rw [← HN.out]; exact hlt)))).2
          show (frl A k).length ≤ _
          omega
        have hys : (⟨(frl B k).toArray⟩ : ByteArray).size ≤ 140737488351232 := by
          have := (HOK2.out _ (List.mem_of_getElem? (frl_in (ls := B) (i := k) (by rw [← HM.out]; exact hlm)))).2
          show (frl B k).length ≤ _
          omega
        obtain ⟨x, hx⟩ : ∃ x, x = frl A k := ⟨_, rfl⟩
        obtain ⟨y, hy⟩ : ∃ y, y = frl B k := ⟨_, rfl⟩
        have E0 : Hid (eqB (labs (low a.data.toList)) (labs (low b.data.toList)) k = (low x == low y)) := Lib.hid (by rw [hx, hy, eqB_low, HEA.out, HEB.out])
        rw [← hx] at d1 hxs
        rw [← hy] at d2 hys
        clear hx hy c1 c2
        have j1 : ((N : Int) - 1 - (k : Int)).toNat = N - 1 - k := by omega
        have j2 : ((M : Int) - 1 - (k : Int)).toNat = M - 1 - k := by omega
        have p1 : (0 : Int) ≤ (N : Int) - 1 - (k : Int) := by omega
        have p2 : (N : Int) - 1 - (k : Int) < (N : Int) := by omega
        have p3 : (0 : Int) ≤ (N : Int) - 1 := by omega
        have p4 : (0 : Int) ≤ (M : Int) - 1 - (k : Int) := by omega
        have p5 : (M : Int) - 1 - (k : Int) < (M : Int) := by omega
        have p6 : (0 : Int) ≤ (M : Int) - 1 := by omega
        have p7 : (k : Int) ≤ (N : Int) - 1 := by omega
        have p8 : (k : Int) ≤ (M : Int) - 1 := by omega
        have p9 : (1 : Int) ≤ (N : Int) := by omega
        have p10 : (1 : Int) ≤ (M : Int) := by omega
        have w1 : IntKind.i64.wrap ((N : Int) - 1) = (N : Int) - 1 := IntWalk.i64_in _ (by omega)
        have w2' : IntKind.i64.wrap ((N : Int) - 1 - (k : Int)) = (N : Int) - 1 - (k : Int) := IntWalk.i64_in _ (by omega)
        have w3 : IntKind.i64.wrap ((M : Int) - 1) = (M : Int) - 1 := IntWalk.i64_in _ (by omega)
        have w4 : IntKind.i64.wrap ((M : Int) - 1 - (k : Int)) = (M : Int) - 1 - (k : Int) := IntWalk.i64_in _ (by omega)
        by_cases g : (low x == low y) = true
        · have HS2 : Hid (∀ j, j < k + 1 → (labs (low a.data.toList)).reverse.getD j [] = (labs (low b.data.toList)).reverse.getD j []) := Lib.hid (by
            intro j hj
            by_cases e : j < k
            · exact HS.out j e
            · obtain rfl : j = k := by omega
              exact (eqB_iff _ _ j).1 (by rw [E0.out]; exact g))
          go_wp2
          go_region_held3 (fun w' => w'.cell? ⟨g1, N - 1 - k, none⟩ = some (.string ⟨x.toArray⟩) ∧ w'.cell? ⟨g2, M - 1 - k, none⟩ = some (.string ⟨y.toArray⟩)) (first | go_keep | (go_split_ands; exact ⟨cell_later (by assumption) (by assumption), cell_later (by assumption) (by assumption)⟩))
            (first | (go_at_call_of 36 (Value.string ⟨x.toArray⟩); refine (rlower_any ⟨x.toArray⟩ hxs _).mono ?_; rintro e w5 ⟨rfl, hb5⟩) | (go_at_call_of 36 (Value.string ⟨y.toArray⟩); refine (rlower_any ⟨y.toArray⟩ hys _).mono ?_; rintro e w6 ⟨rfl, hb6⟩))
          have hbb := chain3 hbr hb5 hb6
          clear hb5 hb6 j1 j2 p1 p2 p3 p4 p5 p6 p7 p8 p9 p10 w1 w2' w3 w4 d1 d2
          go_wp2
          go_roundw
          case rel => exact ⟨k + 1, by omega, by omega, by go_num, HS2.out, hbb⟩
          case measure => simp [intOf]; omega
        · have g' : (low x == low y) = false := by simpa using g
          have HK : Hid (cm a.data.toList b.data.toList = k) := Lib.hid (by
            rw [HCM.out]
            exact cpl_stop _ _ k (by rw [List.length_reverse, HLN.out]; exact hlt) (by rw [List.length_reverse, HLM.out]; exact hlm) HS.out ((eqB_no _ _ k).1 (by rw [E0.out]; exact g')))
          clear g
          go_wp2
          go_region_held3 (fun w' => w'.cell? ⟨g1, N - 1 - k, none⟩ = some (.string ⟨x.toArray⟩) ∧ w'.cell? ⟨g2, M - 1 - k, none⟩ = some (.string ⟨y.toArray⟩)) (first | go_keep | (go_split_ands; exact ⟨cell_later (by assumption) (by assumption), cell_later (by assumption) (by assumption)⟩))
            (first | (go_at_call_of 36 (Value.string ⟨x.toArray⟩); refine (rlower_any ⟨x.toArray⟩ hxs _).mono ?_; rintro e w5 ⟨rfl, hb5⟩) | (go_at_call_of 36 (Value.string ⟨y.toArray⟩); refine (rlower_any ⟨y.toArray⟩ hys _).mono ?_; rintro e w6 ⟨rfl, hb6⟩))
          have hbb := chain3 hbr hb5 hb6
          clear hb5 hb6 j1 j2 p1 p2 p3 p4 p5 p6 p7 p8 p9 p10 w1 w2' w3 w4 d1 d2
          go_wp2
          go_ret
          exact ⟨ret_i64 (by rw [HK.out]), HB12.out.trans (hbb.mono HB12.out.size)⟩
      · have q2 : decide ((k : Int) < (M : Int)) = false := by simp; omega
        have HK : Hid (cm a.data.toList b.data.toList = k) := Lib.hid (by
          rw [HCM.out]
          exact cpl_full _ _ k (by rw [List.length_reverse, List.length_reverse, HLN.out, HLM.out]; omega) (by rw [List.length_reverse, HLN.out]; exact hkN) (by rw [List.length_reverse, HLM.out]; exact hkM) HS.out)
        go_wp2
        go_quiet (fail)
        go_wp2
        go_ret
        exact ⟨ret_i64 (by rw [HK.out]), HB12.out.trans ((hbr.trans ((below_drewN wr _).mono hbr.size)).mono HB12.out.size)⟩
    · have q1 : decide ((k : Int) < (N : Int)) = false := by simp; omega
      have HK : Hid (cm a.data.toList b.data.toList = k) := Lib.hid (by
        rw [HCM.out]
        exact cpl_full _ _ k (by rw [List.length_reverse, List.length_reverse, HLN.out, HLM.out]; omega) (by rw [List.length_reverse, HLN.out]; exact hkN) (by rw [List.length_reverse, HLM.out]; exact hkM) HS.out)
      go_wp2
      go_quiet (fail)
      go_wp2
      go_ret
      exact ⟨ret_i64 (by rw [HK.out]), HB12.out.trans ((hbr.trans ((below_drewN wr _).mono hbr.size)).mono HB12.out.size)⟩
theorem rshared_any (a b : ByteArray) (ha : a.size ≤ 1000000) (hb : b.size ≤ 1000000) (w : World) :
    Calls Try.prog 20 #[.string a, .string b] w fun e w' => e = .returned (.int .i64 (shr a.data.toList b.data.toList)) ∧ Below w.heap.size w w' := by
  by_cases h : chk a.data.toList = 0 ∧ chk b.data.toList = 0
  · rw [← shr_yes h.1 h.2]; exact rshared_yes a b ha hb h.1 h.2 w
  · rw [← shr_no h]; exact rshared_no a b ha hb h w
end Go.Proofs.Ytjoplnkagfkffaa
