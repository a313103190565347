/-
  Plain facts on rows of numbers in memory, used by the walks of this seat; no statement is proved here.
-/
import Derived.Test.YtomghpielgkigaaDoorBits
import Derived.Deep.WholeRow
import Derived.BigRegion
import Derived.StillTailTactics
import Derived.Laws.CopyOwn
import Derived.Deep.RegionHeld3
import Derived.Outline
namespace Go.Proofs.YtomghpielgkigaaDoor
open Go.RowKit
/-- A row of 32-bit numbers as cells. -/
def ui (xs : List Int) : List Value := xs.map (Value.int .u32)
def ua (xs : List Int) : Array Value := (ui xs).toArray
theorem cell_ua {w : World} {g t : Nat} {xs : List Int} (hg : w.heap[g]? = some (.cells (ua xs) t (0, 0))) (j : Nat) (hj : j < xs.length) : w.cell? ⟨g, j, none⟩ = some (.int .u32 (xs.getD j 0)) := by
  rw [cell_of_row w g j _ t _ hg]; simp [ua, ui, hj]
theorem keep_other {w : World} {b i j : Nat} {v u : Value} (hne : i ≠ j) (h : w.cell? ⟨b, j, none⟩ = some u) : (w.setCell ⟨b, i, none⟩ v).cell? ⟨b, j, none⟩ = some u := by
  exact (World.cell?_setCell_other w ⟨b, i, none⟩ ⟨b, j, none⟩ v (fun e => hne (congrArg Addr.off e))).trans h
theorem ui_one {xs : List Int} : ∀ v ∈ ui xs, v.oneCell' = true := by
  intro v hv; obtain ⟨n, _, rfl⟩ := List.mem_map.1 hv; rfl
theorem splice_ui (xs ys : List Int)  : splice (ui ys) 0 (ui xs) = ui (xs ++ ys.drop xs.length) := by
  simp [splice, ui]

/-- The next number of a schedule, as both programs reckon it. -/
def nxt (xs : List Int) : Int := (((sg1 (xs.getD (xs.length - 2) 0) + xs.getD (xs.length - 7) 0) % 4294967296 + sg0 (xs.getD (xs.length - 15) 0)) % 4294967296 + xs.getD (xs.length - 16) 0) % 4294967296
def sched (w : List Int) : Nat → List Int
  | 0 => w
  | k + 1 => sched w k ++ [nxt (sched w k)]
theorem sched_length (w : List Int) (k : Nat) : (sched w k).length = w.length + k := by
  induction k with
  | zero => rfl
  | succ k ih => simp [sched, ih]; omega

theorem und25a : Tryd.prog.underlying 112 = some (.array 64 78) := by kernel_rfl
theorem info25 : (Tryd.prog.info? 112).map (·.size) = some 64 := by kernel_rfl
theorem ua_one (xs : List Int) : (ua xs).all (·.oneCell') = true := by
  rw [Array.all_eq_true_iff_forall_mem]; intro v hv; exact ui_one v (by simpa [ua] using hv)
theorem und25 : Tryd.prog.underlying 121 = some (.slice 78) := by kernel_rfl
theorem size22 : (Tryd.prog.info? 78).map (·.size) = some 1 := by kernel_rfl
def zs (n : Nat) : List Int := List.replicate n 0

theorem set_ua {w : World} {g t i : Nat} {L : List Int} {v : Int} (hg : w.heap[g]? = some (.cells (ua L) t (0, 0))) : (w.setCell ⟨g, i, none⟩ (.int .u32 v)).heap[g]? = some (.cells (ua (L.set i v)) t (0, 0)) := by
  rw [heap_setCell_same w g i _ t _ hg]; simp [ua, ui]
theorem set_zs (xs : List Int) (n : Nat) (v : Int) : (xs ++ zs (n + 1)).set xs.length v = xs ++ [v] ++ zs n := by
  rw [List.set_append_right _ _ (Nat.le_refl _)]; simp [zs, List.replicate_succ]
theorem getD_app {A B : List Int} {i : Nat} (h : i < A.length) : (A ++ B)[i]?.getD 0 = A.getD i 0 := by
  rw [List.getElem?_append_left h]; simp
theorem step_sched (xs : List Int) (hl : xs.length = 16) (k : Nat) (hk : k < 48) (L : List Int) (hL : L = sched xs k ++ zs (48 - k)) :
    L.set (k + 16) ((((sg1 (L[k + 14]?.getD 0) + L[k + 9]?.getD 0) % 4294967296 + sg0 (L[k + 1]?.getD 0)) % 4294967296 + L[k]?.getD 0) % 4294967296) = sched xs (k + 1) ++ zs (48 - (k + 1)) := by
  have hs := sched_length xs k
  have e : 48 - k = (48 - (k + 1)) + 1 := by omega
  rw [hL, getD_app (by omega), getD_app (by omega), getD_app (by omega), getD_app (by omega), e, show k + 16 = (sched xs k).length by omega, set_zs]
  have e1 : (sched xs k).length - 2 = k + 14 := by omega
  have e2 : (sched xs k).length - 7 = k + 9 := by omega
  have e3 : (sched xs k).length - 15 = k + 1 := by omega
  have e4 : (sched xs k).length - 16 = k := by omega
  simp only [sched, nxt, e1, e2, e3, e4]
theorem below_drewN {B : Nat} {a w : World} (h : Below B a w) (n : Nat) : Below B a (w.drewN n) := ⟨h.os, h.tape, h.output, h.size, h.block⟩
theorem three_w (w : World) (A B C : Array Value) (a b c : Nat) : ∃ w3, w3 = ((w.alloc (.cells A a)).alloc (.cells B b)).alloc (.cells C c) ∧ w3.heap[w.heap.size]? = some (.cells A a (0, 0)) ∧ w3.heap[w.heap.size + 1]? = some (.cells B b (0, 0)) ∧
    w3.heap[w.heap.size + 1 + 1]? = some (.cells C c (0, 0)) ∧ w3.heap.size = w.heap.size + 1 + 1 + 1 ∧ Below w.heap.size w w3 := by
  have s1 : (w.alloc (.cells A a)).heap.size = w.heap.size + 1 := by simp
  have s2 : ((w.alloc (.cells A a)).alloc (.cells B b)).heap.size = w.heap.size + 1 + 1 := by simp
  refine ⟨_, rfl, ?_, ?_, ?_, by simp, (((Below.refl _ _).alloc (Nat.le_refl _) _).alloc (by simp) _).alloc (by simp; omega) _⟩
  · rw [Below.heap_alloc _ _ _ (by simp; omega), Below.heap_alloc _ _ _ (by simp)]; exact heap_alloc_new w _
  · rw [Below.heap_alloc _ _ _ (by simp)]; rw [← s1]; exact heap_alloc_new _ _
  · rw [← s2]; exact heap_alloc_new _ _

end Go.Proofs.YtomghpielgkigaaDoor
