/-
  Plain facts on rows of numbers in memory, and on the table of a byte's steps; no statement is proved here.
-/
import Derived.Test.YtpiiknbjllgaoaaCStep
import Derived.Deep.WholeRow
import Derived.BigRegion
import Derived.StillTailTactics
import Derived.Deep.RegionHeld3
import Derived.Laws.Rows
import Derived.Laws.CopyOwn
namespace Go.Proofs.Ytpiiknbjllgaoaa
open Go.RowKit
/-- A row of 32-bit numbers as cells. -/
def ua (xs : List Nat) : Array Value := (xs.map fun n : Nat => Value.int .u32 (n : Int)).toArray
theorem ua_one (xs : List Nat) : (ua xs).all (·.oneCell') = true := by
  rw [Array.all_eq_true_iff_forall_mem]; intro v hv
  obtain ⟨n, _, rfl⟩ := List.mem_map.1 (by simpa [ua] using hv); rfl
theorem cell_ua {w : World} {g t : Nat} {xs : List Nat} (hg : w.heap[g]? = some (.cells (ua xs) t (0, 0))) (j n : Nat) (hj : xs[j]? = some n) : w.cell? ⟨g, j, none⟩ = some (.int .u32 (n : Int)) := by
  rw [cell_of_row w g j _ t _ hg]; simp [ua, hj]
theorem set_ua {w : World} {g t i : Nat} {L : List Nat} {v : Nat} (hg : w.heap[g]? = some (.cells (ua L) t (0, 0))) : (w.setCell ⟨g, i, none⟩ (.int .u32 (v : Int))).heap[g]? = some (.cells (ua (L.set i v)) t (0, 0)) := by
  rw [heap_setCell_same w g i _ t _ hg]; simp [ua]
theorem und45 : Try.prog.underlying 96 = some (.array 256 90) := by kernel_rfl
theorem info45 : (Try.prog.info? 96).map (·.size) = some 256 := by kernel_rfl
theorem size45 {xs : List Nat} (h : xs.length = 256) : (Try.prog.info? 96).map (·.size) = some (ua xs).size := by rw [info45]; simp [ua, h]
theorem same_ua {xs ys : List Nat} (h : xs.length = ys.length) : (ua xs).size = (ua ys).size := by simp [ua, h]

/-- The table, as far as it is made. -/
def tb (m : Nat) : List Nat := (List.range 256).map fun j => if j < m then stn 8 j else 0
theorem tb_length (m : Nat) : (tb m).length = 256 := by simp [tb]
theorem tb_get (m j : Nat) (hj : j < 256) (hm : j < m) : (tb m)[j]? = some (stn 8 j) := by
  simp [tb, hj, hm]
theorem tb_set (m : Nat) : (tb m).set m (stn 8 m) = tb (m + 1) := by
  apply List.ext_getElem
  · simp [tb]
  · intro j h1 h2
    simp only [List.getElem_set, tb, List.getElem_map, List.getElem_range]
    by_cases h : m = j
    · rw [if_pos h, if_pos (by omega), h]
    · rw [if_neg h]
      by_cases h3 : j < m
      · rw [if_pos h3, if_pos (by omega)]
      · rw [if_neg h3, if_neg (by omega)]
theorem tb_sum (k l : Nat) (h : l < 2 ^ k) : stn 8 (2 ^ k) ^^^ stn 8 l = stn 8 (2 ^ k + l) := by
  rw [← stn_xor]
  have := split_xor (i := k) (b := l) 1 h
  rw [Nat.mul_one] at this
  rw [this]
theorem zero45 : (Try.prog.info? 96).map (fun i => (i.zero, i.size)) = some (some (.agg (ua (tb 0))), 256) := by kernel_rfl
theorem tb_one : tb 1 = tb 0 := by
  unfold tb
  apply List.map_congr_left
  intro j _
  by_cases h : j < 1
  · obtain rfl : j = 0 := by omega
    rw [if_pos h, if_neg (by omega), stn_zero]
  · rw [if_neg h, if_neg (by omega)]
theorem tb_get0 (m j : Nat) (hj : j < 256) (hm : ¬ j < m) : (tb m)[j]? = some 0 := by
  simp only [tb, List.getElem?_map, List.getElem?_range hj, Option.map_some, if_neg hm]
theorem other1 {w : World} {g i k : Nat} {u : Value} {o : Obj} (h : k ≠ g) (hk : w.heap[k]? = some o) : (w.setCell ⟨g, i, none⟩ u).heap[k]? = some o :=
  (heap_setCell_other w ⟨g, i, none⟩ k u h).trans hk
theorem two_w (w : World) (A B : Array Value) (a b : Nat) : ∃ w3, w3 = (w.alloc (.cells A a)).alloc (.cells B b) ∧ w3.heap[w.heap.size]? = some (.cells A a (0, 0)) ∧ w3.heap[w.heap.size + 1]? = some (.cells B b (0, 0)) ∧
    w3.heap.size = w.heap.size + 1 + 1 ∧ Below w.heap.size w w3 := by
  have s1 : (w.alloc (.cells A a)).heap.size = w.heap.size + 1 := by simp
  refine ⟨_, rfl, ?_, ?_, by simp, ((Below.refl _ _).alloc (Nat.le_refl _) _).alloc (by simp) _⟩
  · rw [Below.heap_alloc _ _ _ (by simp)]; exact heap_alloc_new w _
  · rw [← s1]; exact heap_alloc_new _ _
set_option maxRecDepth 100000 in
set_option maxHeartbeats 1600000 in
theorem effects_any (w : World) :
    Calls Try.prog 82 #[] w fun e w' => e = .returned (.agg (ua (tb 256))) ∧ Below w.heap.size w w' := by
  obtain ⟨zv, z45⟩ := zero_of_info zero45
  have Z45 := Lib.hid z45
  clear z45
  go_enter Try.func82, Try.ntmps82
  go_wp2
  clear zv
  obtain ⟨w2, hw2, g0, g1, gs, hb2⟩ := two_w w (ua (tb 0)) (ua (tb 0)) 96 96
  change Code.wp _ _ _ _ ((w.alloc (.cells (ua (tb 0)) 96)).alloc (.cells (ua (tb 0)) 96))
  rw [← hw2]
  have G0 := Lib.hid g0
  have G1 := Lib.hid g1
  have GS := Lib.hid gs
  clear hw2 g0 g1 gs
  go_loopw [2, 3, 4, 5, 6, 15] (fun _a _b _c _d i _e wr => ∃ k : Nat, k ≤ 8 ∧ i = .int .i64 k ∧ wr.heap[w.heap.size + 1]? = some (.cells (ua (tb (2 ^ k))) 96 (0, 0)) ∧ wr.heap[w.heap.size]? = some (.cells (ua (tb 0)) 96 (0, 0)) ∧ w.heap.size + 1 < wr.heap.size ∧ Below w.heap.size w wr) (fun _ _ _ _ i _ _ => 8 - (intOf i).toNat)
  case atStart => exact ⟨0, by omega, rfl, by rw [show tb (2 ^ 0) = tb 0 from tb_one]; exact G1.out, G0.out, by have := GS.out; omega, hb2⟩
  case round =>
    obtain ⟨k, hk, rfl, hw, hz, hsz, hbr⟩ := hrel
    by_cases hlt : k < 8
    · obtain ⟨P, hP⟩ : ∃ P, P = 2 ^ k := ⟨_, rfl⟩
      have hP1 : P ≤ 128 := by rw [hP]; exact Nat.pow_le_pow_right (n := 2) (j := 7) (by omega) (by omega)
      have e1 : wrap64 ((2 : Int) ^ k) = (P : Int) := by
        rw [show ((2 : Int) ^ k) = (P : Int) by rw [hP]; simp]
        exact IntWalk.wrap64_in _ ⟨by omega, by omega⟩
      have e2 : (P : Int) % 4294967296 = P := by omega
      rw [← hP] at hw
      have HP := Lib.hid hP
      have HW := Lib.hid hw
      have HZ := Lib.hid hz
      clear hw hz hP
      go_wp2_with fail
      refine (repeat_any 8 (by omega) P (by omega) _).mono ?_
      rintro e w' ⟨rfl, rfl⟩
      go_wp2
      clear e1 e2
      obtain ⟨wo, hwo⟩ : ∃ wo : World, wo = wr := ⟨_, rfl⟩
      rw [← hwo] at HW HZ hsz hbr ⊢
      clear hwo
      go_loopw [5, 15] (fun _a i wr => ∃ l : Nat, l ≤ P ∧ i = .int .i64 l ∧ wr.heap[w.heap.size + 1]? = some (.cells (ua (tb (P + l))) 96 (0, 0)) ∧ wr.heap[w.heap.size]? = some (.cells (ua (tb 0)) 96 (0, 0)) ∧ w.heap.size + 1 < wr.heap.size ∧ Below w.heap.size w wr) (fun _ i _ => P - (intOf i).toNat)
      case atStart => exact ⟨0, by omega, rfl, HW.out, HZ.out, hsz, hbr⟩
      case round =>
        obtain ⟨l, hl, rfl, hw, hz, hsz, hbr⟩ := hrel
        by_cases hll : l < P
        · have c0 := cell_ua hw l _ (tb_get (P + l) l (by omega) (by omega))
          have c1 := cell_ua hw (P + l) _ (tb_get0 (P + l) (P + l) (by omega) (by omega))
          have f0 := frozen_of_row wr _ (P + l) _ _ hw
          have HW := Lib.hid hw
          have HZ := Lib.hid hz
          have HX := Lib.hid (u32_xor_nat _ _ (stn_lt 8 (c := P) (by omega)) (stn_lt 8 (c := l) (by omega)))
          clear hw hz
          have HE : Hid (stn 8 P ^^^ stn 8 l = stn 8 (P + l)) := Lib.hid (by rw [HP.out]; exact tb_sum k l (by rw [← HP.out]; exact hll))
          go_wp2
          rw [HX.out, HE.out]
          go_roundw
          case rel =>
            refine ⟨l + 1, by omega, by go_num, ?_, ?_, by simpa using hsz, hbr.setCell (by simp) _⟩
            · exact (set_ua HW.out).trans (by rw [tb_set]; rfl)
            · exact other1 (by omega) HZ.out
          case measure => simp [intOf]; omega
        · have hlP : l = P := by omega
          rw [hlP, show tb (P + P) = tb (2 ^ (k + 1)) by rw [HP.out, Nat.pow_succ]; congr 1; omega] at hw
          have HW := Lib.hid hw
          have HZ := Lib.hid hz
          clear hw hz
          go_wp2
          go_roundw
          case rel => exact ⟨k + 1, by omega, by go_num, HW.out, HZ.out, hsz, hbr⟩
          case measure => simp [intOf]; omega
    · have hk8 : k = 8 := by omega
      rw [hk8, show 2 ^ 8 = 256 from rfl] at hw
      have HW := Lib.hid hw
      have HZ := Lib.hid hz
      clear hw hz hk8
      go_wp2_with (first
        | (refine wpList_load_row rfl 96 (.tmp 1) rfl (w.heap.size + 1) rfl 96 (ua (tb 256)) (0, 0) (.array 256 90) HW.out und45 rfl (size45 (tb_length _)) ?_)
        | (refine wpList_store_row rfl 96 (.tmp 0) (.tmp 29) rfl w.heap.size (ua (tb 256)) rfl rfl 96 (ua (tb 0)) HZ.out (size45 (tb_length _)) (same_ua (by rw [tb_length, tb_length])) (ua_one _) ?_))
      refine bodyPost_ret (v := .agg (ua (tb 256))) (results_cell_row rfl _ _ w.heap.size 96 (ua (tb 256)) (0, 0) (.array 256 90) rfl (setRow_heap wr _ _ _ _ _ HZ.out) und45 rfl (size45 (tb_length _))) rfl ⟨rfl, ?_⟩
      exact below_setRow hbr (Nat.le_refl _) _
end Go.Proofs.Ytpiiknbjllgaoaa
