/-
  What sha.step hands back, for any eight numbers and a number: the state behind a round; no older memory is changed.
-/
import Derived.Test.YtomghpielgkigaaDoorMeth
import Derived.Test.YtomghpielgkigaaDoorTotal
namespace Go.Proofs.YtomghpielgkigaaDoor
open Go.RowKit

def fsA : List NFn := [(84, fLast), (85, fLow), (86, fChoice)]
def fsB : List NFn := [(87, fHigh), (88, fMaj)]
theorem enters29 (w : World) (args : Array Value) : Sem.run Tryd.prog (callFunc 84 args) w = .ok (.enter 84 args) w := by kernel_rfl
theorem enters30 (w : World) (args : Array Value) : Sem.run Tryd.prog (callFunc 85 args) w = .ok (.enter 85 args) w := by kernel_rfl
theorem enters31 (w : World) (args : Array Value) : Sem.run Tryd.prog (callFunc 86 args) w = .ok (.enter 86 args) w := by kernel_rfl
theorem enters32 (w : World) (args : Array Value) : Sem.run Tryd.prog (callFunc 87 args) w = .ok (.enter 87 args) w := by kernel_rfl
theorem enters33 (w : World) (args : Array Value) : Sem.run Tryd.prog (callFunc 88 args) w = .ok (.enter 88 args) w := by kernel_rfl
theorem isA (s : List Int) (hl : s.length = 8) : ∀ p ∈ fsA, IsFn s p := by
  intro p hp
  simp only [fsA, List.mem_cons, List.not_mem_nil, or_false] at hp
  rcases hp with rfl | rfl | rfl
  · exact fun w => last_any s hl w
  · exact fun w => low_any s hl w
  · exact fun w => choice_any s hl w
theorem isB (s : List Int) (hl : s.length = 8) : ∀ p ∈ fsB, IsFn s p := by
  intro p hp
  simp only [fsB, List.mem_cons, List.not_mem_nil, or_false] at hp
  rcases hp with rfl | rfl
  · exact fun w => high_any s hl w
  · exact fun w => majority_any s hl w
theorem enA : ∀ p ∈ fsA, Enters p := by
  intro p hp
  simp only [fsA, List.mem_cons, List.not_mem_nil, or_false] at hp
  rcases hp with rfl | rfl | rfl
  · exact enters29
  · exact enters30
  · exact enters31
theorem enB : ∀ p ∈ fsB, Enters p := by
  intro p hp
  simp only [fsB, List.mem_cons, List.not_mem_nil, or_false] at hp
  rcases hp with rfl | rfl
  · exact enters32
  · exact enters33

def firstI (s : List Int) (x : Int) : Int := (psum s fsA 3 + x) % 4294967296
def secondI (s : List Int) : Int := psum s fsB 2
def stepI (s : List Int) (x : Int) : List Int :=
  [(firstI s x + secondI s) % 4294967296, s.getD 0 0, s.getD 1 0, s.getD 2 0, (s.getD 3 0 + firstI s x) % 4294967296, s.getD 4 0, s.getD 5 0, s.getD 6 0]
def shifted (s : List Int) : List Int := [0, s.getD 0 0, s.getD 1 0, s.getD 2 0, s.getD 3 0, s.getD 4 0, s.getD 5 0, s.getD 6 0]
theorem shifted_eq (s : List Int) (hl : s.length = 8) : splice (ui (zs 8)) 1 (ui (s.take 7)) = ui (shifted s) := by
  match s, hl with
  | [a, b, c, d, e, f, g, h], _ => rfl

theorem other1 {w : World} {g i k : Nat} {u : Value} {o : Obj} (h : k ≠ g) (hk : w.heap[k]? = some o) : (w.setCell ⟨g, i, none⟩ u).heap[k]? = some o :=
  (heap_setCell_other w ⟨g, i, none⟩ k u h).trans hk
theorem other2 {w : World} {g i j k : Nat} {u v : Value} {o : Obj} (h : k ≠ g) (hk : w.heap[k]? = some o) : ((w.setCell ⟨g, i, none⟩ u).setCell ⟨g, j, none⟩ v).heap[k]? = some o :=
  other1 h (other1 h hk)

set_option maxRecDepth 100000 in
set_option maxHeartbeats 800000 in
theorem step_any (s : List Int) (hl : s.length = 8) (x : Int) (w : World) :
    Calls Tryd.prog 76 #[.agg (ua s), .int .u32 x] w fun e w' => e = .returned (.agg (ua (stepI s x))) ∧ Below w.heap.size w w' := by
  have HL := Lib.hid hl
  clear hl
  go_enter Tryd.func76, Tryd.ntmps76
  go_wp2_with (refine wpList_load_row rfl 114 (.tmp 2) rfl w.heap.size rfl 114 (ua s) (0, 0) (.array 8 78) ((Below.heap_alloc _ _ _ (by simp)).trans (heap_alloc_new w _)) und46 rfl (size8 HL.out) ?_)
  obtain ⟨w3, hw3, h0, h1, h2, hs, hb⟩ := three_w w (ua s) (ua (zs 8)) (fsA.map fcell).toArray 114 114 124
  change Calls Tryd.prog 83 _ (((w.alloc (.cells (ua s) 114)).alloc (.cells (ua (zs 8)) 114)).alloc (.cells (fsA.map fcell).toArray 124)) _
  rw [← hw3]
  refine (total_any s HL.out fsA (by decide) (isA s HL.out) enA (w.heap.size + 1 + 1) w3 h2).mono ?_
  rintro e w4 ⟨rfl, hb4⟩
  have k0 := (hb4.block _ (by omega)).trans h0
  have k1 := (hb4.block _ (by omega)).trans h1
  have ks := hb4.size
  have hb4' : Below w.heap.size w w4 := hb.trans (hb4.mono (by omega))
  have H0 := Lib.hid k0
  have H1 := Lib.hid k1
  clear hw3 h0 h1 h2 hb hb4 k0 k1
  have ks3 : w.heap.size + 2 < w4.heap.size := by omega
  clear hs
  go_wp2_with (refine wpList_load_row rfl 114 (.tmp 2) rfl w.heap.size rfl 114 (ua s) (0, 0) (.array 8 78) H0.out und46 rfl (size8 HL.out) ?_)
  have hn : (w4.alloc (.cells (fsB.map fcell).toArray 124)).heap[w4.heap.size]? = some (.cells (fsB.map fcell).toArray 124 (0, 0)) := heap_alloc_new w4 _
  refine (total_any s HL.out fsB (by decide) (isB s HL.out) enB w4.heap.size (w4.alloc (.cells (fsB.map fcell).toArray 124)) hn).mono ?_
  rintro e w5 ⟨rfl, hb5⟩
  have hs5 : w4.heap.size + 1 ≤ w5.heap.size := by have := hb5.size; simpa using this
  have k0 := ((hb5.block _ (by simp; omega)).trans (Below.heap_alloc w4 _ _ (by omega))).trans H0.out
  have k1 := ((hb5.block _ (by simp; omega)).trans (Below.heap_alloc w4 _ _ (by omega))).trans H1.out
  have hb5' : Below w.heap.size w w5 := (hb4'.alloc (by omega) _).trans (hb5.mono (by simp; omega))
  clear hn hb5 hb4' H0 H1
  have H0 := Lib.hid k0
  have H1 := Lib.hid k1
  clear k0 k1
  go_wp2_with fail
  obtain ⟨w6, hw6⟩ : ∃ w6, w6 = w5.alloc (.cells (ua (zs 8)) 114) := ⟨_, rfl⟩
  obtain ⟨g, hg⟩ : ∃ g, g = w5.heap.size := ⟨_, rfl⟩
  change Code.wp _ _ _ _ (w5.alloc (.cells (ua (zs 8)) 114))
  rw [← hw6, ← hg]
  have k0 : w6.heap[w.heap.size]? = some (.cells (ua s) 114 (0, 0)) := by rw [hw6]; exact (Below.heap_alloc w5 _ _ (by omega)).trans H0.out
  have k1 : w6.heap[w.heap.size + 1]? = some (.cells (ua (zs 8)) 114 (0, 0)) := by rw [hw6]; exact (Below.heap_alloc w5 _ _ (by omega)).trans H1.out
  have k2 : w6.heap[g]? = some (.cells (ua (zs 8)) 114 (0, 0)) := by rw [hw6, hg]; exact heap_alloc_new w5 _
  have hb6 : Below w.heap.size w w6 := by rw [hw6]; exact hb5'.alloc (by omega) _
  have hgs : w.heap.size + 2 ≤ g := by omega
  have HG := Lib.hid hgs
  clear H0 H1 hw6 hg hb5' hs5 ks ks3 hgs
  have H0 := Lib.hid k0
  have H1 := Lib.hid k1
  have H2 := Lib.hid k2
  clear k0 k1 k2
  go_still_tail 2, (by kernel_rfl)
  change wpList _ _ _ _ _ w6.drew
  refine wpList_copy_splice rfl (.tmp 16) (.tmp 17) 121 121 rfl 78 und25 size22 _ _ _ _ _ _ rfl rfl g 1 (ui (zs 8)) 114 H2.out (ui (s.take 7)) (by simp [ui, HL.out]) (fun _ => ⟨rfl, _, rfl, ?_⟩) (by simp [ui, HL.out, zs]) ui_one g w6 (Below.refl _ _).drew (Nat.le_refl _) ?_
  · intro j v hv
    rw [show (⟨w.heap.size, 0, none⟩ : Addr).add j = ⟨w.heap.size, j, none⟩ by unfold Addr.add; split <;> simp_all]
    rw [World.cell?_drew]
    have hj : j < 7 := by
      have := (List.getElem?_eq_some_iff.1 hv).1
      simp [ui] at this; omega
    rw [cell_of_row _ _ j _ _ _ H0.out]
    have hv' : (ui s)[j]? = some v := by
      rw [← hv]; simp [ui, hj]
    simpa [ua] using hv'
  intro w7 h7 hb7
  rw [shifted_eq s HL.out] at h7
  have c0 := cell_ua (xs := shifted s) h7.out 0 (by simp [shifted])
  have c4 := cell_ua (xs := shifted s) h7.out 4 (by simp [shifted])
  have f0 := frozen_of_row w7 _ 0 _ _ h7.out
  have f4 := frozen_of_row w7 _ 4 _ _ h7.out
  have k1 := (hb7.block _ (by have := HG.out; omega)).trans H1.out
  have hb7' : Below w.heap.size w w7 := hb6.trans (hb7.mono (by have := HG.out; omega))
  clear hb7 hb6 H0 H1 H2
  have H1 := Lib.hid k1
  clear k1
  have h7u : w7.heap[g]? = some (.cells (ua (shifted s)) 114 (0, 0)) := h7.out
  have H7 := Lib.hid h7u
  clear h7 h7u
  obtain ⟨N, hN⟩ : ∃ N, N = ((shifted s).set 0 ((psum s fsA fsA.length + x + psum s fsB fsB.length) % 4294967296)).set 4 (((shifted s)[4]?.getD 0 + (psum s fsA fsA.length + x)) % 4294967296) := ⟨_, rfl⟩
  have hNl : N.length = 8 := by rw [hN]; simp [shifted]
  have hst : N = stepI s x := by
    rw [hN]; simp [shifted, stepI, firstI, secondI, fsA, fsB]
  have HN := Lib.hid hN
  have HNl := Lib.hid hNl
  have HS := Lib.hid hst
  clear hN hNl hst
  have hold : (ua (zs 8)).size = (ua N).size := by simp [ua, ui, zs, HNl.out]
  have HO := Lib.hid hold
  have gne : Hid (w.heap.size + 1 ≠ g) := by have := HG.out; exact (by omega : w.heap.size + 1 ≠ g)
  clear hold
  go_wp2_with (refine wpList_load_row rfl 114 (.tmp 7) rfl g rfl 114 (ua N) (0, 0) (.array 8 78) (by rw [HN.out]; exact set_ua (set_ua H7.out)) und46 rfl (size8 HNl.out) ?_; generalize hW : World.setCell (World.setCell w7 _ _) _ _ = w8; have HW8 := Lib.hid hW; clear hW; refine wpList_store_row rfl 114 (.tmp 4) (.tmp 28) rfl (w.heap.size + 1) (ua N) rfl rfl 114 (ua (zs 8)) ?hh (size8 HNl.out) HO.out (ua_one _) ?_; rotate_left)
  case hh => rw [← HW8.out]; exact other2 gne.out H1.out
  have h8 : w8.heap[w.heap.size + 1]? = some (.cells (ua (zs 8)) 114 (0, 0)) := by rw [← HW8.out]; exact other2 gne.out H1.out
  have hb8 : Below w.heap.size w w8 := by
    rw [← HW8.out]
    have := HG.out
    exact (hb7'.setCell (show w.heap.size ≤ g by omega) _).setCell (show w.heap.size ≤ g by omega) _
  refine bodyPost_ret (v := .agg (ua N)) (results_cell_row rfl _ _ (w.heap.size + 1) 114 (ua N) (0, 0) (.array 8 78) rfl (setRow_heap _ _ _ _ _ _ h8) und46 rfl (size8 HNl.out)) rfl ⟨by rw [HS.out], ?_⟩
  exact below_setRow hb8 (by omega) _
end Go.Proofs.YtomghpielgkigaaDoor
