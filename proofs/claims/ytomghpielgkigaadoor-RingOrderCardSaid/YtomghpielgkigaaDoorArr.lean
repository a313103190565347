/-
  Points are put into their order.
-/
import Derived.Test.YtomghpielgkigaaDoorNodes1
namespace Go.Proofs.YtomghpielgkigaaDoor
open Go.RowKit Go.Shelf Go.Lib Go.Sort
set_option maxRecDepth 100000 in
set_option maxHeartbeats 1600000 in
theorem nan_any (x : Int) (w : World) : Calls Tryd.prog 40 #[.int .u64 x] w fun e w' => e = .returned (.bool false) ∧ w' = w := by
  go_enter Tryd.func40, Tryd.ntmps40
  go_wp2
  go_ret
  exact ⟨rfl, rfl⟩
set_option maxRecDepth 100000 in
set_option maxHeartbeats 1600000 in
theorem cmp64_any (x y : Int) (w : World) : Calls Tryd.prog 31 #[.int .u64 x, .int .u64 y] w fun e w' => e = .returned (it (compareInt x y)) ∧ w' = w := by
  obtain ⟨c, hc⟩ : ∃ c, c = compareInt x y := ⟨_, rfl⟩
  rw [← hc]
  by_cases h1 : x < y
  · have e1 : c = -1 := by rw [hc]; simp [compareInt, h1]
    have t1 : decide (x < y) = true := decide_eq_true h1
    subst e1
    clear hc
    go_enter Tryd.func31, Tryd.ntmps31
    go_wp2_with (go_at_call 40; refine (nan_any _ _).mono ?_; rintro e w' ⟨rfl, rfl⟩)
    go_ret
    exact ⟨rfl, rfl⟩
  · by_cases h2 : y < x
    · have e1 : c = 1 := by rw [hc]; simp [compareInt, h1, h2]
      have t1 : decide (x < y) = false := decide_eq_false h1
      have t2 : decide (y < x) = true := decide_eq_true h2
      subst e1
      clear hc
      go_enter Tryd.func31, Tryd.ntmps31
      go_wp2_with (go_at_call 40; refine (nan_any _ _).mono ?_; rintro e w' ⟨rfl, rfl⟩)
      go_ret
      exact ⟨rfl, rfl⟩
    · have e1 : c = 0 := by rw [hc]; simp [compareInt, h1, h2]
      have t1 : decide (x < y) = false := decide_eq_false h1
      have t2 : decide (y < x) = false := decide_eq_false h2
      subst e1
      clear hc
      go_enter Tryd.func31, Tryd.ntmps31
      go_wp2_with (go_at_call 40; refine (nan_any _ _).mono ?_; rintro e w' ⟨rfl, rfl⟩)
      go_ret
      exact ⟨rfl, rfl⟩
theorem cmpI_any (x y : Int) (w : World) : Calls Tryd.prog 32 #[it x, it y] w fun e w' => e = .returned (it (compareInt x y)) ∧ w' = w := Any.cmp_Compare_int Tryd.layCmp x y w
/-- The first of two that is not 0. -/
def or2 (x y : Int) : Int := if x = 0 then y else x
set_option maxRecDepth 100000 in
set_option maxHeartbeats 1600000 in
theorem or_any {w : World} {b : Nat} {x y : Int} (h : Ce w b 3 #[it x, it y]) : Calls Tryd.prog 30 #[.slice (some ⟨b, 0, none⟩) 2 2] w fun e w' => e = .returned (it (or2 x y)) ∧ w' = w := by
  have c0 := h.cell 0
  have c1 := h.cell 1
  simp at c0 c1
  obtain ⟨r, hr⟩ : ∃ r, r = or2 x y := ⟨_, rfl⟩
  rw [← hr]
  by_cases hx : x = 0
  · subst hx
    have e1 : r = y := by rw [hr]; simp [or2]
    subst e1
    by_cases hy : r = 0
    · subst hy
      have hn := (show ∀ i, i < 2 → w.cell? ⟨b, i, none⟩ = some (it 0) from fun i hi => by match i, hi with | 0, _ => exact c0 | 1, _ => exact c1)
      clear hr h
      go_enter Tryd.func30, Tryd.ntmps30
      go_wp2
      go_loop [5, 8] (fun _ i => ∃ k : Nat, k ≤ 2 ∧ i = it (k : Int)) (fun _ i => 2 - (intOf i).toNat)
      case atStart => exact ⟨0, by omega, rfl⟩
      case round =>
        obtain ⟨k, hk, rfl⟩ := hrel
        rcases (show k = 0 ∨ k = 1 ∨ k = 2 by omega) with rfl | rfl | rfl
        · go_wp2
          go_round
          case rel => exact ⟨1, by omega, rfl⟩
          case measure => simp [intOf]
        · go_wp2
          go_round
          case rel => exact ⟨2, by omega, rfl⟩
          case measure => simp [intOf]
        · go_wp2
          go_ret
          exact ⟨rfl, rfl⟩
    · have t1 : (r == 0) = false := by simpa using hy
      clear hr h
      go_enter Tryd.func30, Tryd.ntmps30
      go_wp2
      go_loop [5, 8] (fun _ i => ∃ k : Nat, k ≤ 1 ∧ i = it (k : Int)) (fun _ i => 2 - (intOf i).toNat)
      case atStart => exact ⟨0, by omega, rfl⟩
      case round =>
        obtain ⟨k, hk, rfl⟩ := hrel
        rcases (show k = 0 ∨ k = 1 by omega) with rfl | rfl
        · go_wp2
          go_round
          case rel => exact ⟨1, by omega, rfl⟩
          case measure => simp [intOf]
        · go_wp2
          go_ret
          exact ⟨rfl, rfl⟩
  · have e1 : r = x := by rw [hr]; simp [or2, hx]
    subst e1
    have t1 : (r == 0) = false := by simpa using hx
    clear hr h
    go_enter Tryd.func30, Tryd.ntmps30
    go_wp2
    go_loop [5, 8] (fun _ i => ∃ k : Nat, k ≤ 0 ∧ i = it (k : Int)) (fun _ i => 2 - (intOf i).toNat)
    case atStart => exact ⟨0, by omega, rfl⟩
    case round =>
      obtain ⟨k, hk, rfl⟩ := hrel
      obtain rfl : k = 0 := by omega
      go_wp2
      go_ret
      exact ⟨rfl, rfl⟩
/-- How two points are compared. -/
def cmpP (x y : Pt) : Int := or2 (compareInt x.1 y.1) (compareInt (x.2.val : Int) (y.2.val : Int))
abbrev encL (p : Pt) : List Value := [.int .u64 p.1, .int .i64 (p.2.val : Int)]
set_option maxRecDepth 100000 in
set_option maxHeartbeats 1600000 in
theorem less_any (x y : Pt) (W : World) : Calls Tryd.prog 29 #[encP x, encP y] W fun e w' => e = .returned (it (cmpP x y)) ∧ ∃ q os', w' = grow (W.drewN q) os' := by
  obtain ⟨k1, k2, ks, kb⟩ := two_new W #[.int .u64 x.1, .int .i64 (x.2.val : Int)] #[.int .u64 y.1, .int .i64 (y.2.val : Int)] 50 50
  obtain ⟨w2, hw2⟩ : ∃ w2, w2 = (W.alloc (.cells #[.int .u64 x.1, .int .i64 (x.2.val : Int)] 50)).alloc (.cells #[.int .u64 y.1, .int .i64 (y.2.val : Int)] 50) := ⟨_, rfl⟩
  have hg : w2 = grow W #[.cells #[.int .u64 x.1, .int .i64 (x.2.val : Int)] 50 (0, 0), .cells #[.int .u64 y.1, .int .i64 (y.2.val : Int)] 50 (0, 0)] := by rw [hw2, alloc_eq_grow, alloc_eq_grow, grow_grow]; rfl
  have HG := Lib.hid hg
  obtain ⟨c1, hc1⟩ : ∃ c1, c1 = compareInt x.1 y.1 := ⟨_, rfl⟩
  obtain ⟨c2, hc2⟩ : ∃ c2, c2 = compareInt (x.2.val : Int) (y.2.val : Int) := ⟨_, rfl⟩
  have H1 := Lib.hid (fun w => cmp64_any x.1 y.1 w)
  have H2 := Lib.hid (fun w => cmpI_any (x.2.val : Int) (y.2.val : Int) w)
  obtain ⟨r, hr⟩ : ∃ r, r = cmpP x y := ⟨_, rfl⟩
  have hrr : r = or2 c1 c2 := by rw [hr, hc1, hc2]; rfl
  rw [← hr]
  rw [← hc1] at H1
  rw [← hc2] at H2
  have HRR := Lib.hid hrr
  rw [← hw2] at k1 k2
  have d0 : w2.cell? ⟨W.heap.size, 0, none⟩ = some (.int .u64 x.1) := k1.cell 0
  have d1 : w2.cell? ⟨W.heap.size, 1, none⟩ = some (.int .i64 (x.2.val : Int)) := k1.cell 1
  have d2 : w2.cell? ⟨W.heap.size + 1, 0, none⟩ = some (.int .u64 y.1) := k2.cell 0
  have d3 : w2.cell? ⟨W.heap.size + 1, 1, none⟩ = some (.int .i64 (y.2.val : Int)) := k2.cell 1
  have HW2 := Lib.hid hw2
  clear hc1 hc2 hr hrr k1 k2 ks kb hg hw2
  go_enter Tryd.func29, Tryd.ntmps29
  go_upto_region 1 with fail
  rw [← HW2.out]
  refine wp_region_still_tail 10 (by kernel_rfl) (by kernel_rfl) ?_
  simp only [List.take_succ_cons, List.take_zero, List.drop_succ_cons, List.drop_zero]
  iterate 4 still_step
  still_call (H1.out _)
  iterate 4 still_step
  still_call (H2.out _)
  refine wpStill_nil ?_
  change wpList _ _ _ _ _ w2.drew
  have hcs := Ce.new w2.drew 3 #[it c1, it c2]
  have HO := Lib.hid (or_any hcs)
  rw [← HRR.out] at HO
  clear d0 d1 d2 d3 hcs
  go_wp2_with fail
  refine HO.out.mono ?_
  rintro e w3 ⟨rfl, rfl⟩
  go_wp2
  go_ret
  exact ⟨rfl, 1, _, by rw [HG.out, alloc_eq_grow]; exact grow_grow (W.drewN 1) _ _⟩
theorem ltP (x y : Pt) : ltOf cmpP x y = decide (x.1 < y.1 ∨ x.1 = y.1 ∧ x.2.val < y.2.val) := by
  unfold ltOf cmpP or2 compareInt
  by_cases h1 : x.1 < y.1
  · simp [h1]
  · by_cases h2 : y.1 < x.1
    · have h3 : ¬ x.1 = y.1 := by omega
      simp [h1, h2, h3]
    · have h3 : x.1 = y.1 := by omega
      by_cases h4 : x.2.val < y.2.val
      · simp [h3, h4]
      · by_cases h5 : y.2.val < x.2.val
        · simp [h3, h4, h5]
        · simp [h3, h4, h5]
theorem swoP : SWO (ltOf cmpP) where
  irrefl x := by rw [ltP]; simp
  trans x y z h1 h2 := by rw [ltP] at *; simp at *; omega
  ntrans x y z h1 h2 := by rw [ltP] at *; simp at *; omega
theorem totP (x y : Pt) (h1 : (ltOf cmpP) x y = false) (h2 : (ltOf cmpP) y x = false) : x = y := by
  rw [ltP] at h1 h2
  simp only [decide_eq_false_iff_not] at h1 h2
  have e1 : x.1 = y.1 := by omega
  have e2 : x.2 = y.2 := Fin.ext (by omega)
  exact Prod.ext e1 e2
/-- Points in their order. -/
def srtP (L : List Pt) : List Pt := L.mergeSort fun x y => !(ltOf cmpP) y x
end Go.Proofs.YtomghpielgkigaaDoor
