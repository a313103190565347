/-
  Points of one's own are put into their order.
-/
import Derived.Test.YtomghpielgkigaaDoorArr
namespace Go.Proofs.YtomghpielgkigaaDoor
open Go.RowKit Go.Shelf Go.Lib Go.Sort
theorem srtP_length (L : List Pt) : (srtP L).length = L.length := List.length_mergeSort _
theorem holdsP {w : World} {g : Nat} {L : List Pt} {cur : Array Value} (hg : w.heap[g]? = some (.cells cur 50 (0, 0))) (ht : cur.toList.take (L.length * 2) = elP.fl L) : HoldsK encL 2 w g 0 L.toArray := by
  intro j hj
  have hj2 : j < L.length * 2 := by simpa using hj
  refine ⟨?_, by simp [World.frozen?, hg]⟩
  have hi : j / 2 < L.length := by omega
  have e1 : (elP.fl L)[j / 2 * 2 + j % 2]? = (elP.enc L[j / 2])[j % 2]? := El.fl_at (E := elP) (List.getElem?_eq_getElem hi) (j % 2) (Nat.mod_lt _ (by decide))
  rw [show j / 2 * 2 + j % 2 = j by omega] at e1
  have e2 : cur[j]? = (elP.enc L[j / 2])[j % 2]? := by
    rw [← e1, ← ht, List.getElem?_take_of_lt hj2, Array.getElem?_toList]
  have hm : j % 2 < (elP.enc L[j / 2]).length := by rw [elP.hk]; exact Nat.mod_lt _ (by decide)
  rw [get_flatK _ _ _ _ (by simpa using hj2)]
  show w.cell? ⟨g, 0 + j, none⟩ = some (id (encL L.toArray[j / 2]!)[j % 2]!)
  have e3 : L.toArray[j / 2]! = L[j / 2] := by rw [getElem!_pos _ _ (by simpa using hi)]; simp
  rw [e3]
  simp only [World.cell?, hg, Nat.zero_add, Option.isSome_none, Bool.false_eq_true, if_false, id]
  rw [e2, List.getElem?_eq_getElem hm]
  have : (encL L[j / 2])[j % 2]! = (elP.enc L[j / 2])[j % 2] := getElem!_pos (elP.enc L[j / 2]) (j % 2) hm
  rw [this]
theorem rd_holds {w : World} {g cap : Nat} {L : List Pt} (h : HoldsK encL 2 w g 0 L.toArray) (h1 : L.length ≤ cap) (h2 : cap ≤ maxLen) : RdX elP w (.slice (some ⟨g, 0, none⟩) L.length cap) L := by
  refine ⟨_, cap, rfl, h1, h2, .inr ⟨g, 0, rfl, fun j u hu => ?_⟩⟩
  have hj : j < (elP.fl L).length := (List.getElem?_eq_some_iff.1 hu).1
  rw [El.fl_length] at hj
  have hj2 : j < L.length * 2 := hj
  have hi : j / 2 < L.length := by omega
  have hc := (h.cell (i := j / 2) (c := j % 2) (by simpa using hi) (Nat.mod_lt _ (by decide))).1
  rw [show 0 + j / 2 * 2 + j % 2 = 0 + j by omega] at hc
  rw [hc]
  have e1 : (elP.fl L)[j / 2 * 2 + j % 2]? = (elP.enc L[j / 2])[j % 2]? := El.fl_at (E := elP) (List.getElem?_eq_getElem hi) (j % 2) (Nat.mod_lt _ (by decide))
  rw [show j / 2 * 2 + j % 2 = j by omega, hu] at e1
  have hm : j % 2 < (elP.enc L[j / 2]).length := by rw [elP.hk]; exact Nat.mod_lt _ (by decide)
  rw [List.getElem?_eq_getElem hm] at e1
  have e3 : L.toArray[j / 2]! = L[j / 2] := by rw [getElem!_pos _ _ (by simpa using hi)]; simp
  rw [e3]
  have : (encL L[j / 2])[j % 2]! = (elP.enc L[j / 2])[j % 2] := getElem!_pos (elP.enc L[j / 2]) (j % 2) hm
  rw [this, e1]
theorem agg50 (w : World) : (isAgg 50).run Tryd.prog w = .ok true w := Tryd.isAgg50 w
theorem siz50 (w : World) : (Go.sizeOf 50).run Tryd.prog w = .ok 2 w := Tryd.sizeOf50 w
theorem sortF_any {w : World} {base : Nat} {a : Option Addr} {n cap : Nat} {L : List Pt} (h : OwnX elP w base (.slice a n cap) L) (hl : L.length ≤ 1000000) :
    Calls Tryd.prog 28 #[.slice a n cap, .func (.func 29) #[] #[]] w fun e w' => e = .returned (.tuple #[]) ∧ RdX elP w' (.slice a n cap) (srtP L) ∧ w.grownBy w' (Value.slice a n cap).ownBlock := by
  have hn := h.rd.len
  subst hn
  by_cases h0 : L = []
  · subst h0
    refine (AnyF.slices_SortFunc_none Tryd.laySortF a cap _ w).mono fun e w' he => ?_
    obtain ⟨he, hw⟩ := he
    subst hw
    refine ⟨he, ?_, ⟨rfl, rfl, rfl, Nat.le_refl _, fun _ _ _ => rfl⟩⟩
    rw [show srtP [] = [] from List.mergeSort_nil]
    exact h.rd
  · rcases h.2 with ⟨e, _⟩ | ⟨g, cap', cur, e, hb, hg, h1, h2, h3, h4⟩
    · injection e with _ e2
      exact absurd (List.length_eq_zero_iff.1 e2) h0
    · cases e
      have hH := holdsP hg h4
      have hbk : g < w.heap.size := (Array.getElem?_eq_some_iff.1 hg).1
      have H := AnyQ.slices_SortFunc_total Tryd.laySortF 2 agg50 siz50 encL (fun _ => rfl) (fun x v hv => by rcases List.mem_cons.1 hv with rfl | hv; rfl; rw [List.mem_singleton.1 hv]; rfl) cmpP swoP 29 #[] g 0 cap L.toArray w
        (enters_of Tryd.func29 (by kernel_rfl) rfl) (fun _ _ _ _ x y => less_any x y _) hH hbk (by simp; omega) totP
      rw [List.size_toArray] at H
      change Calls Tryd.prog 28 _ _ _ at H
      refine H.mono fun e w' he => ?_
      obtain ⟨he, q, os, hw⟩ := he
      have hsz : (srtP L).toArray.size = L.toArray.size := by simp [srtP_length]
      have hH' : HoldsK encL 2 w' g 0 (srtP L).toArray := by
        rw [hw]
        exact holdsK_grow _ _ _ _ _ _ _ (by simpa [putRowK, putRow, mapBlock, Sort.ahead] using hbk) (holdsK_putRowK _ _ _ _ _ _ _ (holdsK_ahead _ _ _ _ _ _ _ hH) hsz)
      refine ⟨he, ?_, ?_⟩
      · have := rd_holds hH' (cap := cap) (by rw [srtP_length]; exact h1) h2
        rwa [srtP_length] at this
      · rw [hw]
        refine ⟨rfl, rfl, rfl, by simp [sortWorldK, grow, putRowK, putRow, mapBlock, Sort.ahead], fun k hk hne => ?_⟩
        have hne' : g ≠ k := fun e => hne (by rw [e]; rfl)
        show (grow (putRowK encL 2 (Sort.ahead w q) g 0 _) os).heap[k]? = _
        rw [heap_grow_old _ _ (by simpa [putRowK, putRow, mapBlock, Sort.ahead] using hk)]
        simp [putRowK, putRow, mapBlock, Sort.ahead, Array.getElem?_modify, hne']
set_option maxRecDepth 100000 in
set_option maxHeartbeats 1600000 in
theorem arrange_any {w : World} {base : Nat} {a : Option Addr} {n cap : Nat} {L : List Pt} (h : OwnX elP w base (.slice a n cap) L) (hl : L.length ≤ 1000000) :
    Calls Tryd.prog 20 #[.slice a n cap] w fun e w' => e = .returned (.tuple #[]) ∧ RdX elP w' (.slice a n cap) (srtP L) ∧ w.grownBy w' (Value.slice a n cap).ownBlock := by
  have H := Lib.hid (sortF_any h hl)
  clear h hl
  go_enter Tryd.func20, Tryd.ntmps20
  go_wp2_with fail
  refine H.out.mono ?_
  rintro e w2 ⟨rfl, h2, h3⟩
  have H2 := Lib.hid h2
  have H3 := Lib.hid h3
  clear h2 h3
  go_wp2
  go_end0
  exact ⟨rfl, H2.out, H3.out⟩
end Go.Proofs.YtomghpielgkigaaDoor
