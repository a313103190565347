/-
  The numbers of a list that a node can have; owners; the first one that is alive.
-/
import Derived.Test.YtomghpielgkigaaDoorFirst1
namespace Go.Proofs.YtomghpielgkigaaDoor
open Go.RowKit Go.Shelf
/-- Which nodes stand in a list. -/
def inL (M : List Int) (i : Fin 64) : Bool := decide ((i.val : Int) ∈ M)
theorem inL_snoc_yes (M : List Int) (i : Fin 64) : (onA (inL M)).setIfInBounds i.val (.bool true) = onA (inL (M ++ [(i.val : Int)])) := by
  rw [onA_set]
  refine congrArg onA (funext fun j => ?_)
  unfold inL
  rw [← Bool.decide_or]
  refine decide_eq_decide.2 ?_
  rw [List.mem_append, List.mem_singleton]
  exact or_congr Iff.rfl ⟨fun h => by rw [h], fun h => Fin.ext (by omega)⟩
theorem inL_snoc_no (M : List Int) (x : Int) (h : x < 0 ∨ 64 ≤ x) : onA (inL M) = onA (inL (M ++ [x])) := by
  refine congrArg onA (funext fun j => ?_)
  unfold inL
  refine decide_eq_decide.2 ?_
  rw [List.mem_append, List.mem_singleton]
  have := j.isLt
  exact ⟨.inl, fun h1 => h1.elim id fun e => by omega⟩
theorem und47 : Tryd.prog.underlying 47 = some (.array 64 4) := by kernel_rfl
theorem info47 : (Tryd.prog.info? 47).map (·.size) = some 64 := by kernel_rfl
theorem size47 (on : Fin 64 → Bool) : (Tryd.prog.info? 47).map (·.size) = some (onA on).size := by rw [info47, onA_size]
theorem onA_one (on : Fin 64 → Bool) : (onA on).all (·.oneCell') = true := by
  rw [Array.all_eq_true_iff_forall_mem]
  intro v hv
  unfold onA at hv
  obtain ⟨i, rfl⟩ := Array.mem_ofFn.1 hv
  rfl
set_option maxRecDepth 100000 in
set_option maxHeartbeats 3200000 in
theorem setOf_any {w : World} {v : Value} {M : List Int} (h : RdX elI w v M) (hM : M.length ≤ 1000000) : Calls Tryd.prog 18 #[v] w fun e w' => e = .returned (.agg (onA (inL M))) ∧ Below w.heap.size w w' := by
  obtain ⟨a, cap, rfl, hcap, hcm⟩ := h.shape
  obtain ⟨len, hlen⟩ : ∃ len, len = M.length := ⟨_, rfl⟩
  have HLEN := Lib.hid hlen
  have HR := Lib.hid h
  rw [← hlen] at hM hcap HR ⊢
  obtain ⟨k1, k2, ks, kb⟩ := two_new w (Array.replicate 64 (.bool false)) (Array.replicate 64 (.bool false)) 47 47
  rw [← onA_none] at k1 k2 ks kb
  clear h hlen
  go_enter Tryd.func18, Tryd.ntmps18
  go_wp2
  change Code.wp _ _ _ _ ((w.alloc (.cells (Array.replicate 64 (.bool false)) 47)).alloc (.cells (Array.replicate 64 (.bool false)) 47))
  rw [← onA_none]
  generalize (w.alloc (.cells (onA fun _ => false) 47)).alloc (.cells (onA fun _ => false) 47) = w1 at *
  have K1 := Lib.hid k1
  have K2 := Lib.hid k2
  have KB := Lib.hid kb
  have HR1 := Lib.hid (HR.out.below kb)
  clear k1 k2 kb
  go_loopw [8] (fun i wr => ∃ k : Nat, i = it (k : Int) ∧ k ≤ len ∧ Ce wr w.heap.size 47 (onA fun _ => false) ∧ Ce wr (w.heap.size + 1) 47 (onA (inL (M.take k))) ∧ Below w.heap.size w wr) (fun i _ => len - (intOf i).toNat)
  case atStart => exact ⟨0, rfl, Nat.zero_le _, K1.out, K2.out, KB.out⟩
  case round =>
    obtain ⟨k, rfl, hk, h1, h2, h3⟩ := hrel
    have H1 := Lib.hid h1
    have H2 := Lib.hid h2
    have H3 := Lib.hid h3
    by_cases hlt : k < len
    · obtain ⟨x, hx⟩ : ∃ x, M[k]? = some x := ⟨_, List.getElem?_eq_getElem (by rw [← HLEN.out]; exact hlt)⟩
      obtain ⟨_, g, o, ea, hg, hc⟩ := (HR.out.below h3).at hx
      subst ea
      have d0 : wr.cell? ⟨g, o + k, none⟩ = some (it x) := by
        have := hc 0 (by decide)
        rw [Nat.add_zero] at this
        exact (show o + k * 1 = o + k by omega) ▸ this
      have htk : M.take (k + 1) = M.take k ++ [x] := by rw [List.take_add_one, hx]; rfl
      have HTK := Lib.hid htk
      clear hc hx h1 h2 h3 htk
      by_cases hx0 : 0 ≤ x
      · by_cases hx1 : x < 64
        · obtain ⟨i, rfl⟩ : ∃ i : Fin 64, x = (i.val : Int) := ⟨⟨x.toNat, by omega⟩, by show x = ((x.toNat : Nat) : Int); omega⟩
          have c2 : wr.cell? ⟨w.heap.size + 1, i.val, none⟩ = some (.bool (inL (M.take k) i)) := by
            have := H2.out.cell i.val
            rw [onA_at] at this
            exact this
          have f2 := H2.out.frozen i.val
          have q1 := H1.out.other (B' := w.heap.size + 1) (i := i.val) (by omega) (.bool true)
          have q2 := H2.out.set (i := i.val) (.bool true)
          rw [inL_snoc_yes, ← HTK.out] at q2
          have q3 := H3.out.trans (((Tr.refl (· = w.heap.size + 1) wr).setCell (b := w.heap.size + 1) (i := i.val) (.inl rfl) (.bool true)).below (n := w.heap.size) (by have := H3.out.size; omega) fun k hk => by omega)
          have Q1 := Lib.hid q1
          have Q2 := Lib.hid q2
          have Q3 := Lib.hid q3
          clear q1 q2 q3
          go_wp2
          go_roundw
          case rel => exact ⟨k + 1, by go_num, hlt, Q1.out, Q2.out, Q3.out⟩
          case measure => simp [intOf]; omega
        · have t1 : decide (x < 64) = false := decide_eq_false hx1
          have q2 := H2.out
          rw [inL_snoc_no _ x (.inr (by omega)), ← HTK.out] at q2
          have Q2 := Lib.hid q2
          clear q2
          go_wp2
          go_roundw
          case rel => exact ⟨k + 1, by go_num, hlt, H1.out, Q2.out, H3.out⟩
          case measure => simp [intOf]; omega
      · have t1 : decide (0 ≤ x) = false := decide_eq_false hx0
        have q2 := H2.out
        rw [inL_snoc_no _ x (.inl (by omega)), ← HTK.out] at q2
        have Q2 := Lib.hid q2
        clear q2
        go_wp2
        go_roundw
        case rel => exact ⟨k + 1, by go_num, hlt, H1.out, Q2.out, H3.out⟩
        case measure => simp [intOf]; omega
    · have hkl : k = len := by omega
      subst hkl
      rw [List.take_of_length_le (by rw [HLEN.out]; exact Nat.le_refl _)] at h2
      have HF := Lib.hid h2
      clear h1 h2 h3 H2
      go_wp2_with (first
        | (refine wpList_load_row rfl 47 (.tmp 3) rfl (w.heap.size + 1) rfl 47 (onA (inL M)) (0, 0) (.array 64 4) HF.out und47 rfl (size47 _) ?_)
        | (refine wpList_store_row rfl 47 (.tmp 2) (.tmp 21) rfl w.heap.size (onA (inL M)) rfl rfl 47 (onA fun _ => false) H1.out (size47 _) (by rw [onA_size, onA_size]) (onA_one _) ?_))
      refine bodyPost_ret (v := .agg (onA (inL M))) (results_cell_row rfl _ _ w.heap.size 47 (onA (inL M)) (0, 0) (.array 64 4) rfl (setRow_heap wr _ _ _ _ _ H1.out) und47 rfl (size47 _)) rfl ⟨rfl, ?_⟩
      exact below_setRow H3.out (Nat.le_refl _) _
end Go.Proofs.YtomghpielgkigaaDoor
