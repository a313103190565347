/-
  A ring in memory; where its points begin from a place on (the search); the iterator that visits them.
-/
import Derived.Test.YtomghpielgkigaaDoorFrom
import Derived.Test.YtomghpielgkigaaDoorShelf
namespace Go.Proofs.YtomghpielgkigaaDoor
open Go.RowKit Go.Shelf
/-- A ring: none, or its points in a block of their own. -/
def RingAt (Z : Nat → Prop) (w : World) (v : Value) (L : List Pt) : Prop :=
  (v = .pointer none ∧ L = []) ∨ ∃ b sl, v = ptr b ∧ Ce w b 41 #[sl] ∧ ¬ Z b ∧ RdZ Z w sl L
theorem RdZ.below {Z Z' : Nat → Prop} {w w' : World} {v : Value} {L : List Pt} (h : RdZ Z w v L) (hb : Below w.heap.size w w') (hZ : ∀ k, k < w.heap.size → ¬ Z k → ¬ Z' k) : RdZ Z' w' v L := by
  refine ⟨h.1.below hb, fun g o n c e hne => ?_⟩
  refine hZ g ?_ (h.2 g o n c e hne)
  obtain ⟨a, cap, e2, _, _, h3⟩ := h.1
  rcases h3 with h3 | ⟨g', o', e3, hc⟩
  · exact absurd h3 hne
  · rw [e] at e2
    cases e2
    cases e3
    cases L with
    | nil => exact absurd rfl hne
    | cons x r => exact w.block_lt_of_cell? (u := .int .u64 x.1) ⟨g, o + 0, none⟩ (hc 0 _ rfl)
abbrev Z0 : Nat → Prop := fun _ => False
theorem RingAt.below {Z Z' : Nat → Prop} {w w' : World} {v : Value} {L : List Pt} (h : RingAt Z w v L) (hb : Below w.heap.size w w') (hZ : ∀ k, k < w.heap.size → ¬ Z k → ¬ Z' k) : RingAt Z' w' v L := by
  rcases h with h | ⟨b, sl, e, hc, hz, hr⟩
  · exact .inl h
  · exact .inr ⟨b, sl, e, hc.below hb, hZ b hc.lt hz, hr.below hb hZ⟩
/-- Where all but the blocks of Z lie as they lay. -/
theorem RingAt.at {Z Z' : Nat → Prop} {w w' : World} {v : Value} {L : List Pt} (h : RingAt Z w v L) (hk : ∀ k, k < w.heap.size → ¬ Z k → ¬ Z' k ∧ w'.heap[k]? = w.heap[k]?) : RingAt Z' w' v L := by
  rcases h with h | ⟨b, sl, e, hc, hz, hr⟩
  · exact .inl h
  · obtain ⟨a, cap, es, h1, h2, h3⟩ := hr.1
    by_cases hL : L = []
    · exact .inr ⟨b, sl, e, (hk b hc.lt hz).2.trans hc, (hk b hc.lt hz).1, ⟨a, cap, es, h1, h2, .inl hL⟩, fun g o n c _ hne => absurd hL hne⟩
    · rcases h3 with h3 | ⟨g, o, rfl, hcs⟩
      · exact absurd h3 hL
      · have hz2 := hr.2 g o _ _ es hL
        have hg : g < w.heap.size := by
          cases L with
          | nil => exact absurd rfl hL
          | cons x r => exact w.block_lt_of_cell? (u := .int .u64 x.1) ⟨g, o + 0, none⟩ (hcs 0 _ rfl)
        refine .inr ⟨b, sl, e, (hk b hc.lt hz).2.trans hc, (hk b hc.lt hz).1, ⟨_, cap, es, h1, h2, .inr ⟨g, o, rfl, fun j u hu => (World.cell?_of_block (w := w) (a := ⟨g, o + j, none⟩) (hk g hg hz2).2).trans (hcs j u hu)⟩⟩, fun g' o' n c e2 _ => ?_⟩
        rw [es] at e2
        cases e2
        exact (hk g hg hz2).1
set_option maxRecDepth 100000 in
set_option maxHeartbeats 1600000 in
theorem all_any {Z : Nat → Prop} {w : World} {v : Value} {L : List Pt} (h : RingAt Z w v L) : ∃ sl, RdZ Z w sl L ∧ ∀ W, Below w.heap.size w W → Calls Tryd.prog 27 #[v] W fun e w' => e = .returned sl ∧ w' = W := by
  rcases h with ⟨rfl, rfl⟩ | ⟨b, sl, rfl, hc, _, hr⟩
  · refine ⟨_, ⟨RdX.nil _, fun _ _ _ _ _ h => absurd rfl h⟩, fun W _ => ?_⟩
    go_enter Tryd.func27, Tryd.ntmps27
    go_wp2
    go_ret
    exact ⟨rfl, rfl⟩
  · refine ⟨sl, hr, fun W hb => ?_⟩
    have c0 := (hc.below hb).cell 0
    clear hr
    simp at c0
    go_enter Tryd.func27, Tryd.ntmps27
    go_wp2
    go_ret
    exact ⟨rfl, rfl⟩
/-- How many points stand ahead of a place. -/
def st (h : Int) (L : List Pt) : Nat := L.countP fun x => !decide (h ≤ x.1)
theorem st_le (h : Int) (L : List Pt) : st h L ≤ L.length := List.countP_le_length
def Srt (L : List Pt) : Prop := L.Pairwise fun x y => x.1 ≤ y.1
def plA (L : List Pt) (i : Nat) : Int := (L[i]?.map (·.1)).getD 0
theorem count_range (h : Int) (L : List Pt) : (List.range L.length).countP (fun i => !decide (h ≤ plA L i)) = st h L := by
  have e : L.map (·.1) = (List.range L.length).map (plA L) := by
    apply List.ext_getElem
    · simp
    · intro i h1 h2
      have h3 : i < L.length := by simpa using h1
      simp [plA, h3]
  have := congrArg (List.countP fun x => !decide (h ≤ x)) e
  rw [List.countP_map, List.countP_map] at this
  exact this.symm
theorem plA_mono {L : List Pt} (hs : Srt L) (a b : Nat) (hab : a ≤ b) (hb : b < L.length) : plA L a ≤ plA L b := by
  have ha : a < L.length := by omega
  unfold plA
  rw [List.getElem?_eq_getElem ha, List.getElem?_eq_getElem hb]
  by_cases h : a = b
  · subst h; exact Int.le_refl _
  · exact List.pairwise_iff_getElem.1 hs a b ha hb (by omega)
set_option maxRecDepth 100000 in
set_option maxHeartbeats 1600000 in
theorem pred_any (W : World) (B1 B2 i : Nat) (sl : Value) (h : Int) (L : List Pt) (h1 : Boxed W B1 39 sl) (h2 : Boxed W B2 42 (.int .u64 h)) (hR : RdX elP W sl L) (hi : i < L.length) (_hL : L.length ≤ 1024) :
    Calls Tryd.prog 43 #[it (i : Int), ptr B1, ptr B2] W fun e w' => e = .returned (.bool (decide (h ≤ plA L i))) ∧ ∃ q, w' = W.drewN q := by
  obtain ⟨x, hx⟩ : ∃ x, L[i]? = some x := ⟨_, List.getElem?_eq_getElem hi⟩
  have hp : plA L i = x.1 := by unfold plA; rw [hx]; rfl
  obtain ⟨a, cap, rfl, hcap, hcm⟩ := hR.shape
  obtain ⟨_, g, o, rfl, hg, hc⟩ := hR.at hx
  have c1 := h1.cell
  have c2 := h2.cell
  have d0 : W.cell? ⟨g, o + i * 2, none⟩ = some (.int .u64 x.1) := hc 0 (by decide)
  obtain ⟨n, hn⟩ : ∃ n, n = L.length := ⟨_, rfl⟩
  rw [← hn] at hi hcap c1
  have e4 : (i : Int) < (n : Int) := by omega
  rw [hp]
  clear hn hc hx hR h1 h2 hp
  go_enter Tryd.func43, Tryd.ntmps43
  go_wp2_with fail
  go_quiet (fail)
  go_wp2
  go_ret
  exact ⟨rfl, _, rfl⟩
set_option maxRecDepth 100000 in
set_option maxHeartbeats 3200000 in
theorem from_any {Z : Nat → Prop} {w : World} {v : Value} {L : List Pt} (h : RingAt Z w v L) (pl : Int) (hs : Srt L) (hL : L.length ≤ 1024) :
    Calls Tryd.prog 34 #[v, .int .u64 pl] w fun e w' => ∃ B1 B2 sl, e = .returned (.func (.func 44) #[] #[ptr B1, ptr B2]) ∧ w.heap.size ≤ B1 ∧ w.heap.size ≤ B2 ∧ Boxed w' B1 39 sl ∧ Boxed w' B2 3 (it (st pl L : Int)) ∧ RdZ Z w sl L ∧ Below w.heap.size w w' := by
  obtain ⟨sl, hr, ha⟩ := all_any h
  obtain ⟨a, cap, rfl, hcap, hcm⟩ := hr.1.shape
  have HA := Lib.hid ha
  have HR0 := Lib.hid hr
  have HS := Lib.hid hs
  clear h hs ha hr
  obtain ⟨len, hlen⟩ : ∃ len, len = L.length := ⟨_, rfl⟩
  have HLEN := Lib.hid hlen
  rw [← hlen] at hcap hL HR0 HA
  clear hlen
  go_enter Tryd.func34, Tryd.ntmps34
  go_wp2_with fail
  have hb1 := one_new w (.cells #[.int .u64 pl] 42)
  have hbx := Boxed.new w 42 (.int .u64 pl)
  generalize w.alloc _ = w1 at *
  have HB1 := Lib.hid hb1
  have HBX := Lib.hid hbx
  clear hb1 hbx
  refine (HA.out w1 HB1.out).mono ?_
  rintro e w2 ⟨rfl, rfl⟩
  have HR := Lib.hid (HR0.out.1.below HB1.out)
  have hb2 := one_new w2 (.cells #[.slice a len cap] 39)
  have hbx := Boxed.new w2 39 (.slice a len cap)
  have HB2 := Lib.hid hb2
  have HBX2 := Lib.hid hbx
  clear hb2 hbx
  go_upto_region 2 with fail
  generalize w2.alloc _ = w3 at *
  have hc2 := HBX2.out.cell
  have hS := Any.sort_Search Tryd.laySearch 43 #[ptr w2.heap.size, ptr w.heap.size] len (fun i => decide (pl ≤ plA L i)) w3 (enters_of Tryd.func43 (by kernel_rfl) rfl) (by omega) ?hf ?hm
  case hf =>
    intro m os i hi
    have hbg : Below w3.heap.size w3 (Sort.grow (w3.drewN m) os) := below_grown_sl w3.heap.size w3 m os (Nat.le_refl _)
    have hbb := HB2.out.trans (hbg.mono HB2.out.size)
    refine (pred_any _ w2.heap.size w.heap.size i _ pl L ((hbg.block _ HBX2.out.lt).trans HBX2.out) ((hbb.block _ HBX.out.lt).trans HBX.out) ((HR.out.below HB2.out).below hbg) (by rw [← HLEN.out]; exact hi) (by rw [← HLEN.out]; exact hL)).mono ?_
    rintro e w' ⟨rfl, q, rfl⟩
    exact ⟨rfl, q, #[], by rw [Sort.grow_empty]⟩
  case hm =>
    intro x y hxy hy hx
    have h1 := plA_mono HS.out x y hxy (by rw [← HLEN.out]; exact hy)
    simp only [decide_eq_true_eq] at *
    omega
  change Calls Tryd.prog 42 _ _ _ at hS
  have hcnt : (List.range len).countP (fun i => !decide (pl ≤ plA L i)) = st pl L := by rw [HLEN.out]; exact count_range pl L
  have hle : st pl L ≤ len := by rw [HLEN.out]; exact st_le _ _
  simp only [hcnt] at hS
  have HSS := Lib.hid hS
  obtain ⟨s, hs⟩ : ∃ s, s = st pl L := ⟨_, rfl⟩
  rw [← hs] at HSS hle
  have HST := Lib.hid hs
  clear hS hcnt hs
  go_wp2_with fail
  refine HSS.out.mono ?_
  rintro e w4 ⟨rfl, q, os, hw4⟩
  have hb4 : Below w3.heap.size w3 w4 := by rw [hw4]; exact below_grown_sl w3.heap.size w3 q os (Nat.le_refl _)
  have HB4 := Lib.hid hb4
  clear hw4 hb4 hc2
  have hb5 := one_new w4 (.cells #[it (s : Int)] 3)
  have hbx5 := Boxed.new w4 3 (it (s : Int))
  have HB5 := Lib.hid hb5
  have HBX5 := Lib.hid hbx5
  clear hb5 hbx5
  go_upto_region 3 with fail
  generalize w4.alloc _ = w5 at *
  go_wp2
  go_ret
  have hsz1 := HB1.out.size
  have hsz2 := HB2.out.size
  have hsz4 := HB4.out.size
  refine ⟨w2.heap.size, w4.heap.size, _, rfl, hsz1, by omega, ((HB4.out.trans (HB5.out.mono HB4.out.size)).block _ HBX2.out.lt).trans HBX2.out, by rw [← HST.out]; exact HBX5.out, HR0.out, ?_⟩
  · exact ((HB1.out.trans (HB2.out.mono hsz1)).trans (HB4.out.mono (by omega))).trans (HB5.out.mono (by omega))
end Go.Proofs.YtomghpielgkigaaDoor
