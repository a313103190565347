/-
  What sha.total hands back, for any functions of a state that hand back numbers: their sum; no older memory is changed.
-/
import Derived.Test.YtomghpielgkigaaDoorKit
namespace Go.Proofs.YtomghpielgkigaaDoor
open Go.RowKit

abbrev NFn := Nat × (List Int → Int)
def fcell (p : NFn) : Value := .func (.func p.1) #[] #[]
def psum (s : List Int) (fs : List NFn) (k : Nat) : Int := (fs.take k).foldl (fun n p => (n + p.2 s) % 4294967296) 0
theorem psum_succ (s : List Int) (fs : List NFn) (k : Nat) (h : k < fs.length) : psum s fs (k + 1) = (psum s fs k + (fs.getD k (0, fun _ => 0)).2 s) % 4294967296 := by
  unfold psum; rw [List.take_succ_eq_append_getElem h, List.foldl_append]; simp [h]
/-- A function of a state's numbers that changes nothing. -/
def IsFn (s : List Int) (p : NFn) : Prop := ∀ w : World, Calls Tryd.prog p.1 #[.agg (ua s)] w fun e w' => e = .returned (.int .u32 (p.2 s)) ∧ Below w.heap.size w w'
/-- The number names a function with a body. -/
def Enters (p : NFn) : Prop := ∀ (w : World) (args : Array Value), Sem.run Tryd.prog (callFunc p.1 args) w = .ok (.enter p.1 args) w
theorem info46 : (Tryd.prog.info? 114).map (·.size) = some 8 := by kernel_rfl
theorem und46 : Tryd.prog.underlying 114 = some (.array 8 78) := by kernel_rfl
theorem size8 {s : List Int} (h : s.length = 8) : (Tryd.prog.info? 114).map (·.size) = some (ua s).size := by rw [info46]; simp [ua, ui, h]

set_option maxRecDepth 100000 in
set_option maxHeartbeats 400000 in
theorem total_any (s : List Int) (hl : s.length = 8) (fs : List NFn) (hn : fs.length ≤ 100) (hfs : ∀ p ∈ fs, IsFn s p) (hen : ∀ p ∈ fs, Enters p) (b : Nat) (w : World)
    (hb : w.heap[b]? = some (.cells (fs.map fcell).toArray 124 (0, 0))) :
    Calls Tryd.prog 83 #[.agg (ua s), .slice (some ⟨b, 0, none⟩) fs.length fs.length] w fun e w' => e = .returned (.int .u32 (psum s fs fs.length)) ∧ Below w.heap.size w w' := by
  have hbl : b < w.heap.size := (Array.getElem?_eq_some_iff.1 hb).1
  have HL := Lib.hid hl
  have HB := Lib.hid hb
  have HF := Lib.hid hfs
  clear hl hb hfs
  obtain ⟨n, hN⟩ : ∃ n, n = fs.length := ⟨_, rfl⟩
  rw [← hN] at hn ⊢
  have HN := Lib.hid hN
  clear hN
  go_enter Tryd.func83, Tryd.ntmps83
  go_wp2
  obtain ⟨w1, hw1⟩ : ∃ w1, w1 = w.alloc (.cells (ua s) 114) := ⟨_, rfl⟩
  have h1 : w1.heap[w.heap.size]? = some (.cells (ua s) 114 (0, 0)) := by rw [hw1]; exact heap_alloc_new w _
  have hb1 : Below w.heap.size w w1 := by rw [hw1]; exact (Below.refl _ _).alloc (Nat.le_refl _) _
  have hs1 : w.heap.size < w1.heap.size := by rw [hw1]; simp
  rw [← hw1]
  have H1 := Lib.hid h1
  clear hw1 h1
  go_loopw [5, 10] (fun v i wr => ∃ k : Nat, k ≤ n ∧ i = .int .i64 k ∧ v = .int .u32 (psum s fs k) ∧ Below (w.heap.size + 1) w1 wr) (fun _ i _ => n - (intOf i).toNat)
  case atStart => exact ⟨0, by omega, rfl, rfl, Below.refl _ _⟩
  case round =>
    obtain ⟨k, hk, rfl, rfl, hbr⟩ := hrel
    by_cases hlt : k < n
    · have hkl : k < fs.length := by rw [← HN.out]; exact hlt
      obtain ⟨p, hp⟩ : ∃ p, p = fs.getD k (0, fun _ => 0) := ⟨_, rfl⟩
      have hpm : p ∈ fs := by rw [hp]; simp [hkl]
      have cf : wr.cell? ⟨b, k, none⟩ = some (.func (.func p.1) #[] #[]) := by
        rw [hbr.cell (show b < w.heap.size + 1 by omega), hb1.cell hbl, cell_of_row w b k _ _ _ HB.out, hp]
        simp [fcell, hkl]
      have hps := psum_succ s fs k hkl
      rw [← hp] at hps
      have HP := Lib.hid hps
      have hz : w1.heap.size ≤ wr.heap.size := hbr.size
      have hw := (hbr.block _ (by omega)).trans H1.out
      have HW := Lib.hid hw
      have hent : ∀ (w : World), Sem.run Tryd.prog (callFunc p.1 #[.agg (ua s)]) w = .ok (.enter p.1 #[.agg (ua s)]) w := fun w => hen p hpm w _
      clear hps hp hw hkl hen
      go_wp2_with (refine wpList_load_row rfl 114 (.tmp 2) rfl w.heap.size rfl 114 (ua s) (0, 0) (.array 8 78) HW.out und46 rfl (size8 HL.out) ?_)
      refine (HF.out p hpm _).mono ?_
      rintro e w2 ⟨rfl, hb2⟩
      clear hent
      go_wp2
      go_roundw
      case rel => exact ⟨k + 1, by omega, by go_num, by rw [HP.out], hbr.trans (hb2.mono (by omega))⟩
      case measure => simp [intOf]; omega
    · clear hen
      go_wp2
      go_ret
      obtain rfl : k = n := by omega
      exact ⟨rfl, hb1.trans (hbr.mono (by omega))⟩
end Go.Proofs.YtomghpielgkigaaDoor
