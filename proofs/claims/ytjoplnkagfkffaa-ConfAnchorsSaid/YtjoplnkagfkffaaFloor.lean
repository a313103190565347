/-
  Floors.
-/
import Derived.Test.YtjoplnkagfkffaaFlush
namespace Go.Proofs.Ytjoplnkagfkffaa
open Go.RowKit
set_option maxRecDepth 100000 in
set_option maxHeartbeats 3200000 in
theorem max_any {w : World} {a : Option Addr} {n cap : Nat} {L : List Int} (h : RdX elI w (.slice a n cap) L) (hl : L.length ≤ 1000000) (h0 : 0 < L.length) :
    Calls Try.prog 15 #[.slice a n cap] w fun e w' => e = .returned (it (mx L)) ∧ Below w.heap.size w w' := by
  have hn := h.len
  obtain ⟨x0, hx0⟩ : ∃ x, L[0]? = some x := ⟨_, List.getElem?_eq_getElem h0⟩
  obtain ⟨b, o, rfl, hg, c0⟩ := at1 h rfl hx0 rfl
  rw [Nat.add_zero] at c0
  have q0 : decide ((n : Int) < 1) = false := by simp; omega
  have q0' : decide (n < 1) = false := by simp; omega
  have q1 : (0 : Int) < (n : Int) := by omega
  have q1' : 0 < n := by omega
  have HR := Lib.hid h
  have HN := Lib.hid hn
  have HX0 := Lib.hid hx0
  have hl' : n ≤ 1000000 := by omega
  clear h hn hl hx0 h0
  go_enter Try.func15, Try.ntmps15
  go_wp2
  go_loopw [3, 4] (fun m i wr => ∃ k : Nat, 1 ≤ k ∧ k ≤ n ∧ i = it (k : Int) ∧ m = it (mx (L.take k)) ∧ Below w.heap.size w wr) (fun _ i _ => n - (intOf i).toNat)
  case atStart => 
    refine ⟨1, Nat.le_refl _, q1', rfl, ?_, Below.refl _ _⟩
    cases hL : L with
    | nil => rw [hL] at HX0; have := HX0.out; simp at this
    | cons y r => rw [hL] at HX0; have := HX0.out; simp at this; subst this; rfl
  case round =>
    obtain ⟨k, hk1, hk, rfl, rfl, hb⟩ := hrel
    have HB := Lib.hid hb
    by_cases hlt : k < n
    · have q2 : (k : Int) < (n : Int) := by omega
      obtain ⟨x, hx⟩ : ∃ x, L[k]? = some x := ⟨_, List.getElem?_eq_getElem (by rw [← HN.out]; exact hlt)⟩
      obtain ⟨b', o', he, hg', d0⟩ := at1 HR.out rfl hx rfl
      cases he
      have d0 := (hb.cell (p := ⟨b, o + k, none⟩) hg).trans d0
      have HE : Hid (mx (L.take (k + 1)) = max (mx (L.take k)) x) := Lib.hid (by
        rw [List.take_add_one, hx]
        cases hL : L with
        | nil => rw [hL] at hx; simp at hx
        | cons y r =>
          obtain ⟨j, rfl⟩ : ∃ j, k = j + 1 := ⟨k - 1, by omega⟩
          rw [List.take_succ_cons]
          show ((r.take j) ++ [x]).foldl max y = max ((r.take j).foldl max y) x
          rw [List.foldl_append]; rfl)
      clear hx hb
      generalize mx (L.take k) = mk at *
      by_cases hm : mk ≤ x
      · have hmx : max mk x = x := by omega
        go_wp2
        go_roundw
        case rel => exact ⟨k + 1, by omega, by omega, by go_num, by rw [HE.out]; congr 1; split <;> omega, HB.out⟩
        case measure => simp [intOf]; omega
      · have hmx : max mk x = mk := by omega
        go_wp2
        go_roundw
        case rel => exact ⟨k + 1, by omega, by omega, by go_num, by rw [HE.out]; congr 1; split <;> omega, HB.out⟩
        case measure => simp [intOf]; omega
    · have q2 : decide ((k : Int) < (n : Int)) = false := by simp; omega
      have HE : Hid (L.take k = L) := Lib.hid (List.take_of_length_le (by have := HN.out; omega))
      rw [HE.out]
      go_wp2
      go_ret
      exact ⟨rfl, HB.out⟩
set_option maxRecDepth 100000 in
set_option maxHeartbeats 6400000 in
theorem floor_any {w : World} {r h a fs : Value} {ep : Int} {L : List Fl'} {n : ByteArray} (hf : RdX elF w fs L) (hl : L.length ≤ 1000) (hn : n.size ≤ 1000000) (hzs : ∀ f ∈ L, f.zone.size ≤ 1000000) :
    Calls Try.prog 8 #[.agg #[r, h, a, it ep, fs], .string n] w fun e w' => e = .returned (it (flr L (bl n))) ∧ Below w.heap.size w w' := by
  have hb := one_new w (.cells #[r, h, a, it ep, fs] 29)
  have HC := Lib.hid (Ce.new w 29 #[r, h, a, it ep, fs])
  obtain ⟨fa, fc, rfl, _⟩ := hf.shape
  have HR := Lib.hid (hf.below hb)
  have HB := Lib.hid hb
  have HZ := Lib.hid hzs
  obtain ⟨m, hm⟩ : ∃ m, m = L.length := ⟨_, rfl⟩
  rw [← hm] at HC HR HB hl ⊢
  have HM := Lib.hid hm
  obtain ⟨fl, hfl⟩ : ∃ fl, fl = mx ((L.filter fun f => und (bl n) (bl f.zone)).map (·.ep)) := ⟨_, rfl⟩
  rw [show flr L (bl n) = fl from hfl.symm]
  have HFL := Lib.hid hfl
  clear hb hf hzs hm hfl
  go_enter Try.func8, Try.ntmps8
  go_upto_region 1 with fail
  generalize w.alloc _ = wA at *
  obtain ⟨c0, c1, c2, c3, c4⟩ := c5 HC.out
  go_upto_region 3 with fail
  go_loopw [5, 11] (fun es i wr => ∃ k : Nat, k ≤ m ∧ i = it (k : Int) ∧ OwnX elI wr wA.heap.size es (((L.take k).filter fun f => und (bl n) (bl f.zone)).map (·.ep)) ∧ Below wA.heap.size wA wr) (fun _ i _ => m - (intOf i).toNat)
  case atStart => exact ⟨0, Nat.zero_le _, rfl, OwnX.nil _ _, Below.refl _ _⟩
  case round =>
    obtain ⟨k, hk, rfl, ho, hb⟩ := hrel
    have HO := Lib.hid ho
    have HBW := Lib.hid hb
    by_cases hlt : k < m
    · have q2 : (k : Int) < (m : Int) := by omega
      obtain ⟨x, hx⟩ : ∃ x, L[k]? = some x := ⟨_, List.getElem?_eq_getElem (by rw [← HM.out]; exact hlt)⟩
      obtain ⟨b, o, rfl, hg, d0, d1⟩ := at2 HR.out rfl hx rfl
      have d0 := (hb.cell (p := ⟨b, o + k * 2, none⟩) hg).trans d0
      have d1 := (hb.cell (p := ⟨b, o + k * 2 + 1, none⟩) hg).trans d1
      have HXX := Lib.hid hx
      have hbn := one_new wr (.cells #[it x.ep, .string x.zone] 48)
      have HBN := Lib.hid hbn
      have HU := Lib.hid (under_any n x.zone hn (HZ.out x (List.mem_of_getElem? hx)) (wr.alloc (.cells #[it x.ep, .string x.zone] 48)))
      clear hx hb ho hbn
      go_wp2_with fail
      refine HU.out.mono ?_
      rintro e w2 ⟨rfl, hb2⟩
      have HB2 := Lib.hid (HBN.out.trans (hb2.mono HBN.out.size))
      have HO2 := Lib.hid (HO.out.below HB2.out)
      have HD2 := Lib.hid (((Ce.new wr 48 #[it x.ep, .string x.zone]).below hb2))
      have e0 : w2.cell? ⟨wr.heap.size, 0, none⟩ = some (it x.ep) := by rw [HD2.out.cell]; rfl
      clear hb2 d0 d1
      cases hu : und (bl n) (bl x.zone) with
      | true =>
        have HE : Hid ((((L.take k).filter fun f => und (bl n) (bl f.zone)).map (·.ep)) ++ [x.ep] = (((L.take (k + 1)).filter fun f => und (bl n) (bl f.zone)).map (·.ep))) := Lib.hid (by rw [filt_snoc HXX.out, hu, List.map_append]; rfl)
        have hbo := one_new w2 (.cells #[it x.ep] 3)
        have HOX := Lib.hid (HO2.out.below hbo)
        have HRX := Lib.hid (rdX_one elI w2 x.ep #[it x.ep] rfl)
        have HLE : Hid ((((L.take k).filter fun f => und (bl n) (bl f.zone)).map (·.ep)).length + [x.ep].length ≤ 1000000) := Lib.hid (by
          have := filt_len (p := fun f => und (bl n) (bl f.zone)) (L := L) (j := k)
          rw [List.length_map]; simp; omega)
        have HBO := Lib.hid hbo
        have HSZ : Hid (wA.heap.size ≤ (w2.alloc (.cells #[it x.ep] 3)).heap.size) := Lib.hid (by have := HBW.out.size; have := HB2.out.size; have := HBO.out.size; omega)
        clear hbo
        go_wp2_with (at_builtin; refine wp_app elI rfl (.tmp 19) (.tmp 22) rfl wA.heap.size _ _ [x.ep] rfl HOX.out _ rfl HRX.out HLE.out HSZ.out ?_)
        intro v6 w6 ho6 hg6 hv6
        rw [HE.out] at ho6
        have HO6 := Lib.hid ho6
        have HB6 : Hid (Below wA.heap.size wA w6) := Lib.hid ((HBW.out.trans ((HB2.out.trans (HBO.out.mono HB2.out.size)).mono HBW.out.size)).trans ⟨hg6.os, hg6.tape, hg6.output, hg6.size, fun i hi => hg6.block i (by have := HSZ.out; omega) (fun e => by have := HOX.out.block i e.symm; omega)⟩)
        clear ho6 hg6 hv6
        go_wp2
        go_roundw
        case rel => exact ⟨k + 1, by omega, by go_num, HO6.out, HB6.out⟩
        case measure => simp [intOf]; omega
      | false =>
        have HE : Hid ((((L.take k).filter fun f => und (bl n) (bl f.zone)).map (·.ep)) = (((L.take (k + 1)).filter fun f => und (bl n) (bl f.zone)).map (·.ep))) := Lib.hid (by rw [filt_snoc HXX.out, hu]; simp)
        rw [HE.out] at HO2
        have HB6 : Hid (Below wA.heap.size wA w2) := Lib.hid (HBW.out.trans (HB2.out.mono HBW.out.size))
        go_wp2
        go_roundw
        case rel => exact ⟨k + 1, by omega, by go_num, HO2.out, HB6.out⟩
        case measure => simp [intOf]; omega
    · have q2 : decide ((k : Int) < (m : Int)) = false := by simp; omega
      have HE : Hid (L.take k = L) := Lib.hid (List.take_of_length_le (by have := HM.out; omega))
      rw [HE.out] at HO
      have HBF : Hid (Below w.heap.size w wr) := Lib.hid (HB.out.trans (HBW.out.mono HB.out.size))
      have HLE : Hid (((L.filter fun f => und (bl n) (bl f.zone)).map (·.ep)).length ≤ 1000000) := Lib.hid (by
        have := List.length_filter_le (fun f => und (bl n) (bl f.zone)) L
        rw [List.length_map]; have := HM.out; omega)
      generalize ((L.filter fun f => und (bl n) (bl f.zone)).map (·.ep)) = M at *
      obtain ⟨ea, ec, rfl, _⟩ := HO.out.shape
      have HRM := Lib.hid HO.out.rd
      clear ho hb
      by_cases hz : M.length = 0
      · have hM : M = [] := List.eq_nil_of_length_eq_zero hz
        subst hM
        go_wp2
        go_ret
        exact ⟨by rw [HFL.out]; rfl, HBF.out⟩
      · have q3 : ((M.length : Int) == 0) = false := by simp; intro e; rw [e] at hz; exact hz rfl
        have q3' : (M.length == 0) = false := by simpa using hz
        have HMX := Lib.hid (max_any HRM.out HLE.out (by omega))
        obtain ⟨y, hy⟩ : ∃ y, y = M.length := ⟨_, rfl⟩
        rw [← hy] at q3 q3' HMX ⊢
        clear hy hz
        go_wp2_with fail
        refine HMX.out.mono ?_
        rintro e w2 ⟨rfl, hb2⟩
        have HB2 := Lib.hid (HBF.out.trans (hb2.mono HBF.out.size))
        clear hb2
        go_wp2
        go_ret
        exact ⟨by rw [HFL.out]; rfl, HB2.out⟩
end Go.Proofs.Ytjoplnkagfkffaa
