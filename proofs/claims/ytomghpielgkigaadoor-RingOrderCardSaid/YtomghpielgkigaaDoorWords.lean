/-
  What sha.words hands back, for any 64 bytes: their 16 numbers; no older memory is changed.
-/
import Derived.Test.YtomghpielgkigaaDoorComp
namespace Go.Proofs.YtomghpielgkigaaDoor
open Go.RowKit

/-- A row of bytes as cells. -/
def ub (xs : List Int) : Array Value := (xs.map (Value.int .u8)).toArray
theorem cell_ub {w : World} {g t : Nat} {xs : List Int} (hg : w.heap[g]? = some (.cells (ub xs) t (0, 0))) (j : Nat) (hj : j < xs.length) : w.cell? ⟨g, j, none⟩ = some (.int .u8 (xs.getD j 0)) := by
  rw [cell_of_row w g j _ t _ hg]; simp [ub, hj]
theorem ub_one (xs : List Int) : (ub xs).all (·.oneCell') = true := by
  rw [Array.all_eq_true_iff_forall_mem]; intro v hv
  have hv' : v ∈ xs.map (Value.int .u8) := by simpa [ub] using hv
  obtain ⟨n, _, rfl⟩ := List.mem_map.1 hv'; rfl
theorem ub_size (xs : List Int) : (ub xs).size = xs.length := by simp [ub]
def IsBytes (xs : List Int) : Prop := ∀ b ∈ xs, 0 ≤ b ∧ b < 256
theorem IsBytes.get {xs : List Int} (h : IsBytes xs) (j : Nat) : 0 ≤ xs.getD j 0 ∧ xs.getD j 0 < 256 := by
  by_cases hj : j < xs.length
  · simp [hj]; exact h _ (List.getElem_mem hj)
  · simp [hj]
/-- The numbers of a block, byte by byte. -/
def wds (bs : List Int) : Nat → List Int
  | 0 => zs 16
  | k + 1 => (wds bs k).set (k / 4) (((wds bs k).getD (k / 4) 0 * 256 + bs.getD k 0) % 4294967296)
theorem wds_length (bs : List Int) (k : Nat) : (wds bs k).length = 16 := by
  induction k with
  | zero => rfl
  | succ k ih => simp [wds, ih]
theorem wds_lo (bs : List Int) (k : Nat) : ∀ x ∈ wds bs k, 0 ≤ x ∧ x < 4294967296 := by
  induction k with
  | zero => intro x hx; have := List.eq_of_mem_replicate hx; omega
  | succ k ih =>
    intro x hx
    rcases List.mem_or_eq_of_mem_set hx with h | h
    · exact ih x h
    · omega
theorem or_byte (x b : Int) (h0 : 0 ≤ x) (hb : 0 ≤ b) (hb2 : b < 256) : bits .or .u32 (x * 256 % 4294967296) b = (x * 256 + b) % 4294967296 := by
  obtain ⟨X, rfl⟩ := Int.eq_ofNat_of_zero_le h0
  obtain ⟨B, rfl⟩ := Int.eq_ofNat_of_zero_le hb
  have e1 : ((X : Int) * 256 % 4294967296) = (((X % 16777216) * 256 : Nat) : Int) := by omega
  rw [e1, u32_or_nat _ _ (by omega) (by omega)]
  have e2 : (X % 16777216) * 256 ||| B = (X % 16777216) * 256 + B := by
    have := Nat.shiftLeft_add_eq_or_of_lt (i := 8) (b := B) (by omega) (X % 16777216)
    rw [Nat.shiftLeft_eq] at this
    exact this.symm
  rw [e2]
  omega
theorem und50 : Tryd.prog.underlying 80 = some (.array 64 5) := by kernel_rfl
theorem info50 : (Tryd.prog.info? 80).map (·.size) = some 64 := by kernel_rfl

set_option maxRecDepth 100000 in
set_option maxHeartbeats 800000 in
theorem words_any (bs : List Int) (hl : bs.length = 64) (hby : IsBytes bs) (w : World) :
    Calls Tryd.prog 60 #[.agg (ub bs)] w fun e w' => e = .returned (.agg (ua (wds bs 64))) ∧ Below w.heap.size w w' := by
  have HL := Lib.hid hl
  have HBy := Lib.hid hby
  clear hl hby
  go_enter Tryd.func60, Tryd.ntmps60
  go_wp2
  obtain ⟨w3, hw3, h0, h1, h2, hs, hb⟩ := three_w w (ub bs) (ua (zs 16)) (ua (zs 16)) 80 98 98
  change Code.wp _ _ _ _ (((w.alloc (.cells (ub bs) 80)).alloc (.cells (ua (zs 16)) 98)).alloc (.cells (ua (zs 16)) 98))
  rw [← hw3]
  clear hw3
  have H0 := Lib.hid h0
  have H1 := Lib.hid h1
  have H2 := Lib.hid h2
  clear h0 h1 h2 hs
  go_loopw [5] (fun i wr => ∃ k : Nat, k ≤ 64 ∧ i = .int .i64 k ∧ wr.heap[w.heap.size + 1 + 1]? = some (.cells (ua (wds bs k)) 98 (0, 0)) ∧ Below (w.heap.size + 1 + 1) w3 wr)
    (fun i _ => 64 - (intOf i).toNat)
  case atStart => exact ⟨0, by omega, rfl, H2.out, Below.refl _ _⟩
  case round =>
    obtain ⟨k, hk, rfl, hw, hbr⟩ := hrel
    by_cases hlt : k < 64
    · have cb : wr.cell? ⟨w.heap.size, k, none⟩ = some (.int .u8 (bs.getD k 0)) := (hbr.cell (by simp; omega)).trans (cell_ub H0.out k (by rw [HL.out]; exact hlt))
      have c0 := cell_ua hw (k / 4) (by rw [wds_length]; omega)
      have f0 := frozen_of_row wr _ (k / 4) _ _ hw
      have HW := Lib.hid hw
      have hb1 := HBy.out.get k
      obtain ⟨y, hy⟩ : ∃ y, y = bs.getD k 0 := ⟨_, rfl⟩
      obtain ⟨x, hx⟩ : ∃ x, x = (wds bs k).getD (k / 4) 0 := ⟨_, rfl⟩
      have hx0 : 0 ≤ x := by
        rw [hx]
        have : (wds bs k)[k / 4]'(by rw [wds_length]; omega) ∈ wds bs k := List.getElem_mem _
        have := (wds_lo bs k _ this).1
        simpa [wds_length, show k / 4 < 16 by omega] using this
      rw [← hy] at cb hb1
      rw [← hx] at c0
      obtain ⟨hy0, hy1⟩ := hb1
      have HY := Lib.hid hy
      have HX := Lib.hid hx
      clear hw hy hx
      go_wp2
      have e4 : IntKind.i64.wrap ((k : Int) / 4) = (k : Int) / 4 := by rw [IntWalk.i64_in _ (by omega)]
      have p4 : (0 : Int) ≤ (k : Int) / 4 := by omega
      have q4 : (k : Int) / 4 < 16 := by omega
      have q64 : (k : Int) < 64 := by omega
      have t4 : ((k : Int) / 4).toNat = k / 4 := by omega
      have ew : IntKind.u32.wrap y = y := by rw [IntKind.wrap_u32']; omega
      go_still_tail 13, (by kernel_rfl)
      change wpList _ _ _ _ _ wr.drew
      go_wp2
      go_roundw
      case rel =>
        refine ⟨k + 1, by omega, by go_num, ?_, ?_⟩
        · refine (set_ua (w := wr) HW.out).trans ?_
          rw [or_byte x y hx0 hy0 hy1, HX.out, HY.out]
          rfl
        · exact (Below.setCell (p := ⟨w.heap.size + 1 + 1, k / 4, none⟩) hbr (Nat.le_refl _) _).drew
      case measure => simp [intOf]; omega
    · have hk64 : k = 64 := by omega
      rw [hk64] at hw
      have HW := Lib.hid hw
      have I1 : wr.heap[w.heap.size + 1]? = some (.cells (ua (zs 16)) 98 (0, 0)) := (hbr.block _ (by omega)).trans H1.out
      have HI := Lib.hid I1
      obtain ⟨W, hW⟩ : ∃ W, W = wds bs 64 := ⟨_, rfl⟩
      have hWl : W.length = 16 := by rw [hW]; exact wds_length bs 64
      have HWl := Lib.hid hWl
      rw [← hW] at hw
      have HWW := Lib.hid hw
      have HWd := Lib.hid hW
      clear I1 hw hk64 HW hW hWl
      go_wp2_with (first
        | (refine wpList_load_row rfl 98 (.tmp 3) rfl (w.heap.size + 1 + 1) rfl 98 (ua W) (0, 0) (.array 16 78) HWW.out und23 rfl (size23 HWl.out) ?_)
        | (refine wpList_store_row rfl 98 (.tmp 2) (.tmp 22) rfl (w.heap.size + 1) (ua W) rfl rfl 98 (ua (zs 16)) HI.out (size23 HWl.out) (same_size HWl.out.symm) (ua_one _) ?_))
      refine bodyPost_ret (v := .agg (ua W)) (results_cell_row rfl _ _ (w.heap.size + 1) 98 (ua W) (0, 0) (.array 16 78) rfl (setRow_heap wr _ _ _ _ _ HI.out) und23 rfl (size23 HWl.out)) rfl ⟨by rw [HWd.out], ?_⟩
      exact below_setRow (hb.trans (hbr.mono (by omega))) (by omega) _
end Go.Proofs.YtomghpielgkigaaDoor
