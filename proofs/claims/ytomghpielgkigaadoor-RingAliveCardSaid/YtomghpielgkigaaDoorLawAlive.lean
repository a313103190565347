/-
  The law RingAlive: the first one that lives.
-/
import Derived.Test.YtomghpielgkigaaDoorAwake14
namespace Go.Proofs.YtomghpielgkigaaDoor
open Go.RowKit
theorem al_some {l : List (Fin 64)} {A : List Int} {x : Fin 64} (h : l.find? (inL A) = some x) : (x.val : Int) ∈ A ∧ x ∈ l :=
  ⟨by have := List.find?_some h; simpa [inL] using this, List.mem_of_find?_eq_some h⟩
theorem al_rest {l : List (Fin 64)} {a : Int} {A : List Int} {x : Fin 64} (h : l.find? (inL (a :: A)) = some x) : (x.val : Int) = a ∨ l.find? (inL A) = some x := by
  by_cases he : (x.val : Int) = a
  · exact .inl he
  · refine .inr ?_
    rw [List.find?_eq_some_iff_append] at h ⊢
    obtain ⟨h1, p, q, e, h2⟩ := h
    refine ⟨?_, p, q, e, fun y hy => ?_⟩
    · simp [inL] at h1 ⊢
      rcases h1 with h1 | h1
      · exact absurd h1 he
      · exact h1
    · have := h2 y hy
      simp [inL] at this ⊢
      exact this.2
theorem al_order {l : List (Fin 64)} (x : Fin 64) (hx : x ∈ l) : ∃ y, l.find? (inL (vls l)) = some y ∧ l[0]? = some y := by
  cases l with
  | nil => cases hx
  | cons y r => exact ⟨y, by simp [List.find?, inL, vls], rfl⟩
theorem al_no {l : List (Fin 64)} {A : List Int} (h : l.find? (inL A) = none) {i j : Nat} {a b : Int} (hi : (vls l)[i]? = some b) (hj : A[j]? = some a) : a ≠ b := by
  rintro rfl
  rw [List.find?_eq_none] at h
  unfold vls at hi
  rw [List.getElem?_map] at hi
  obtain ⟨x, hx, rfl⟩ := Option.map_eq_some_iff.1 hi
  exact h x (List.mem_of_getElem? hx) (by simpa [inL] using List.mem_of_getElem? hj)
theorem al_empty (l : List (Fin 64)) : l.find? (inL []) = none := by
  rw [List.find?_eq_none]
  intro x _
  simp [inL]
theorem slice_one {w : World} {a : Option Addr} {n cap : Nat} {A : List Int} (h : RdX elI w (.slice a n cap) A) (hn : 0 < n) :
    ∃ a', (∀ W, (Instr.slice 22 (.slice a n cap) (some (it 1)) none none).run Tryd.prog W = .ok (.slice a' (n - 1) (cap - 1)) W) ∧ RdX elI w (.slice a' (n - 1) (cap - 1)) (A.drop 1) := by
  obtain ⟨j, hj, hz0, hz1, hz2⟩ := info_parts infoI
  obtain ⟨_, _, e, h1, h2, h3⟩ := h
  cases e
  have q1 : (1 : Int) ≤ (A.length : Int) := by omega
  rcases h3 with rfl | ⟨g, o, rfl, hc⟩
  · exact absurd rfl (Nat.ne_of_gt hn)
  · have hcell : ∀ (k : Nat) u, (elI.fl (A.drop 1))[k]? = some u → w.cell? ⟨g, o + 1 + k, none⟩ = some u := fun k u hu => by
      rw [flI, List.getElem?_map, List.getElem?_drop] at hu
      have := hc (1 + k) u (by rw [flI, List.getElem?_map]; exact hu)
      exact (show o + (1 + k) = o + 1 + k by omega) ▸ this
    by_cases hc1 : cap = 1
    · subst hc1
      have hA : A.drop 1 = [] := List.eq_nil_of_length_eq_zero (by rw [List.length_drop]; omega)
      have hl : A.length = 1 := by omega
      refine ⟨_, fun W => by simp [Instr.slice, Instr.sliceBounds, Instr.sliceBound, run_underlying Tryd.underlying22, sizeOf, typeInfo, hj, asIntOf, hl]; rfl, ?_⟩
      rw [hA]
      exact ⟨_, _, by rw [hl]; rfl, Nat.zero_le _, Nat.zero_le _, .inl rfl⟩
    · refine ⟨some ⟨g, o + 1, none⟩, fun W => ?_, ⟨_, _, by rw [List.length_drop], by rw [List.length_drop]; omega, by omega, .inr ⟨g, o + 1, rfl, hcell⟩⟩⟩
      simp [Instr.slice, Instr.sliceBounds, Instr.sliceBound, run_underlying Tryd.underlying22, sizeOf, typeInfo, hj, asIntOf, q1, Addr.add, hz1]
      exact hc1
theorem vls_at {l : List (Fin 64)} {i : Nat} (h : i < l.length) : (vls l)[i]? = some (l[i].val : Int) := by
  unfold vls
  rw [List.getElem?_map, List.getElem?_eq_getElem h]
  rfl
set_option maxRecDepth 100000 in
set_option maxHeartbeats 3200000 in
theorem lawAlive_any {w : World} (hT : Tab w) {v u : Value} {M0 A0 : List Int} (hv : RdX elI w v M0) (hu : RdX elI w u A0) (s : ByteArray) : Calls Tryd.prog 6 #[v, u, .string s] w fun e w' => e = .returned (.bool true) ∧ Below w.heap.size w w' := by
  obtain ⟨t, ht, hS⟩ := short_any s 100
  have HS := Lib.hid hS
  have HT := Lib.hid hT
  have HTS : Hid (t.size ≤ 140737488355328) := Lib.hid (by omega)
  have HV := Lib.hid hv
  have HU := Lib.hid hu
  have HA := Lib.hid (awake_any hT)
  obtain ⟨va, vc, rfl, _⟩ := hv.shape
  obtain ⟨ua, uc, rfl, _⟩ := hu.shape
  generalize M0.length = m0 at *
  generalize A0.length = n0 at *
  clear hS hT hv hu ht
  go_enter Tryd.func6, Tryd.ntmps6
  go_wp2_with fail
  refine HA.out.mono ?_
  rintro e w1 ⟨rfl, hb1⟩
  have HB1 := Lib.hid hb1
  have HM := Lib.hid (few_any (HV.out.below hb1))
  have HU1 := Lib.hid (HU.out.below hb1)
  clear hb1 HU HV HA
  go_wp2_with fail
  refine HM.out.mono ?_
  rintro e w1' ⟨v', rfl, hv', rfl⟩
  have HF := Lib.hid (few_any HU1.out)
  have HV' := Lib.hid hv'
  obtain ⟨va', vc', rfl, _⟩ := hv'.shape
  obtain ⟨M, hM⟩ : ∃ M, M = M0.take 12 := ⟨_, rfl⟩
  have HML : Hid (M.length ≤ 12) := Lib.hid (by rw [hM, List.length_take]; omega)
  rw [← hM] at HV' ⊢
  generalize hm : M.length = m at *
  have HMM := Lib.hid hm
  clear hv' hM HM hm
  go_wp2_with fail
  refine HF.out.mono ?_
  rintro e w1 ⟨u', rfl, hu', rfl⟩
  have HU' := Lib.hid hu'
  obtain ⟨ua', uc', rfl, _⟩ := hu'.shape
  obtain ⟨A, hA⟩ : ∃ A, A = A0.take 12 := ⟨_, rfl⟩
  have HAL : Hid (A.length ≤ 12) := Lib.hid (by rw [hA, List.length_take]; omega)
  rw [← hA] at HU' ⊢
  obtain ⟨n, hn⟩ : ∃ n, n = A.length := ⟨_, rfl⟩
  rw [← hn] at HU' ⊢
  have HNN := Lib.hid hn
  clear hu' hA HF hn HU1
  go_wp2_with fail
  refine (HS.out w1).mono ?_
  rintro e w1' ⟨rfl, rfl⟩
  have HN := Lib.hid (ri_new (HT.out.below HB1.out) HV'.out (by rw [HMM.out]; have := HML.out; omega))
  clear HS
  go_wp2_with fail
  refine HN.out.mono ?_
  rintro e w2 ⟨p, rfl, hr, hb2⟩
  have HB2 := Lib.hid (HB1.out.trans (hb2.mono HB1.out.size))
  have HR := Lib.hid hr
  have HU2 := Lib.hid (HU'.out.below hb2)
  have HX := Lib.hid (ri_next (HT.out.below HB2.out) hr t HTS.out 64)
  rw [List.take_of_length_le (nx_le t M)] at HX
  clear hr hb2 HU' HN HV'
  go_wp2_with fail
  refine HX.out.mono ?_
  rintro e w3 ⟨vo, rfl, ho, hb3⟩
  have HB3 := Lib.hid (HB2.out.trans (hb3.mono HB2.out.size))
  have HR3 := Lib.hid (HR.out.below hb3)
  have HU3 := Lib.hid (HU2.out.below hb3)
  have HO3 := Lib.hid ho
  obtain ⟨oa, oc, rfl, _⟩ := ho.shape
  have HAl := Lib.hid (ri_alive (HT.out.below HB3.out) HR3.out t HTS.out HU3.out (by have := HAL.out; omega))
  rw [al_find] at HAl
  obtain ⟨l, hl⟩ : ∃ l, l = nx t M := ⟨_, rfl⟩
  have HL := Lib.hid hl
  rw [← hl] at HO3 HAl ⊢
  rw [vls_len] at HO3 ⊢
  obtain ⟨ln, hln⟩ : ∃ ln, ln = l.length := ⟨_, rfl⟩
  have HLN := Lib.hid hln
  rw [← hln] at HO3 ⊢
  clear ho hb3 HX HU2 HR hl hln
  obtain ⟨f, hf⟩ : ∃ f, f = l.find? (inL A) := ⟨_, rfl⟩
  rw [← hf] at HAl
  have HFD := Lib.hid hf
  clear hf
  cases f with
  | none =>
    go_wp2_with fail
    refine HAl.out.mono ?_
    rintro e w4 ⟨rfl, hb4⟩
    have HB4 := Lib.hid (HB3.out.trans (hb4.mono HB3.out.size))
    have HU4 := Lib.hid (HU3.out.below hb4)
    have HO4 := Lib.hid (HO3.out.below hb4)
    clear hb4
    rw [show fstN none = -1 from rfl]
    have hno : ∀ (i j : Nat) (a b : Int), (vls l)[i]? = some b → A[j]? = some a → a ≠ b := fun i j a b hi hj => al_no HFD.out.symm hi hj
    have HNO := Lib.hid hno
    have hn12 : n ≤ 12 := by rw [HNN.out]; exact HAL.out
    have hl64 : ln ≤ 64 := by rw [HLN.out, HL.out]; exact nx_le t M
    have h01 : ((n : Int) == 0) = true ∨ ((n : Int) == 0) = false := by cases ((n : Int) == 0) <;> simp
    clear hno HAl HFD
    rcases h01 with h01 | h01
    all_goals
      go_wp2
      go_loopw [12] (fun i wr => ∃ k : Nat, k ≤ ln ∧ i = it (k : Int) ∧ Below w4.heap.size w4 wr) (fun i _ => ln - (intOf i).toNat)
      case atStart => exact ⟨0, Nat.zero_le _, rfl, Below.refl _ _⟩
      case round =>
        obtain ⟨k, hk, rfl, hbr⟩ := hrel
        have HBR := Lib.hid hbr
        clear hbr
        by_cases hlt : k < ln
        · have q : (k : Int) < (ln : Int) := by omega
          go_wp2
          go_loopw [13] (fun i wr => ∃ j : Nat, j ≤ n ∧ i = it (j : Int) ∧ Below w4.heap.size w4 wr) (fun i _ => n - (intOf i).toNat)
          case atStart => exact ⟨0, Nat.zero_le _, rfl, HBR.out⟩
          case round =>
            obtain ⟨j, hj, rfl, hbq⟩ := hrel
            have HBQ := Lib.hid hbq
            clear hbq
            by_cases hjt : j < n
            · have q2 : (j : Int) < (n : Int) := by omega
              obtain ⟨b, hb⟩ : ∃ b, (vls l)[k]? = some b := ⟨_, vls_at (by have := HLN.out; omega)⟩
              obtain ⟨a, ha⟩ : ∃ a, A[j]? = some a := ⟨_, List.getElem?_eq_getElem (by have := HNN.out; omega)⟩
              have hne := HNO.out _ _ _ _ hb ha
              have q3 : (a == b) = false := by simpa using hne
              obtain ⟨g, o, rfl, hg, c1⟩ := rdx_at HU4.out ha
              obtain ⟨g2, o2, rfl, hg2, c2⟩ := rdx_at HO4.out hb
              have c1 := (HBQ.out.cell (p := ⟨g, o + j, none⟩) hg).trans c1
              have c2 := (HBQ.out.cell (p := ⟨g2, o2 + k, none⟩) hg2).trans c2
              clear ha hb hg hg2 hne
              go_wp2_with fail
              go_quiet (fail)
              go_wp2
              go_roundw
              case rel => exact ⟨j + 1, by omega, by go_num, HBQ.out.trans (below_drewN (Below.refl _ _) _ |>.mono HBQ.out.size)⟩
              case measure => simp [intOf]; omega
            · have q2 : decide ((j : Int) < (n : Int)) = false := by simp; omega
              go_wp2
              go_roundw
              case rel => exact ⟨k + 1, by omega, by go_num, HBQ.out⟩
              case measure => simp [intOf]; omega
        · have q : decide ((k : Int) < (ln : Int)) = false := by simp; omega
          go_wp2
          go_ret
          exact ⟨rfl, HB4.out.trans (HBR.out.mono HB4.out.size)⟩
  | some x =>
    obtain ⟨hxA, hxl⟩ := al_some HFD.out.symm
    obtain ⟨a, A', rfl⟩ : ∃ a A', A = a :: A' := by cases A with | nil => cases hxA | cons a A' => exact ⟨a, A', rfl⟩
    obtain ⟨y, hy, hy0⟩ := al_order x hxl
    have hr := al_rest HFD.out.symm
    have hn0 : 0 < n := by rw [HNN.out]; exact Nat.succ_pos _
    have h01 : ((n : Int) == 0) = false := by simp; omega
    have HN0 := Lib.hid hn0
    have HXR := Lib.hid hr
    have HY := Lib.hid hy
    have HY0 := Lib.hid (show (vls l)[0]? = some (y.val : Int) by unfold vls; rw [List.getElem?_map, hy0]; rfl)
    obtain ⟨xv, hxv⟩ : ∃ xv : Int, xv = (x.val : Int) := ⟨_, rfl⟩
    have HXV := Lib.hid hxv
    rw [show fstN (some x) = xv from hxv.symm] at HAl
    clear hxA hxl hy hy0 hr hn0 HFD hxv
    go_wp2_with fail
    refine HAl.out.mono ?_
    rintro e w4 ⟨rfl, hb4⟩
    have HB4 := Lib.hid (HB3.out.trans (hb4.mono HB3.out.size))
    have HU4 := Lib.hid (HU3.out.below hb4)
    have HO4 := Lib.hid (HO3.out.below hb4)
    have HR4 := Lib.hid (HR3.out.below hb4)
    obtain ⟨a', hsl, hrd⟩ := slice_one HU4.out HN0.out
    have HA2 := Lib.hid (ri_alive (HT.out.below HB4.out) HR4.out t HTS.out hrd (by have := HAL.out; simp at *; omega))
    rw [al_find, ← HL.out, List.drop_one, List.tail_cons] at HA2
    obtain ⟨r2, b2, hr2, hq2⟩ : ∃ r2 b2, (fstN (l.find? (inL A')) = r2 ∧ (l.find? (inL A')).isSome = b2) ∧ (xv = a ∨ (b2 = true ∧ r2 = xv)) := by
      refine ⟨_, _, ⟨rfl, rfl⟩, ?_⟩
      rcases HXR.out with h | h
      · exact .inl (HXV.out.trans h)
      · refine .inr ?_
        rw [h]
        exact ⟨rfl, HXV.out.symm⟩
    rw [hr2.1, hr2.2] at HA2
    have HQ2 := Lib.hid hq2
    clear hb4 hrd hr2 hq2 HAl
    go_wp2_with fail
    refine HA2.out.mono ?_
    rintro e w5 ⟨rfl, hb5⟩
    have HB5 := Lib.hid (HB4.out.trans (hb5.mono HB4.out.size))
    have HU5 := Lib.hid (HU4.out.below hb5)
    have HO5 := Lib.hid (HO4.out.below hb5)
    have HA3 := Lib.hid (ri_alive (HT.out.below HB5.out) (HR4.out.below hb5) t HTS.out HO5.out (by rw [vls_len, HL.out]; have := nx_le t M; omega))
    rw [al_find, ← HL.out, HY.out] at HA3
    obtain ⟨yv, hyv⟩ : ∃ yv : Int, yv = (y.val : Int) := ⟨_, rfl⟩
    rw [show fstN (some y) = yv from hyv.symm] at HA3
    rw [← hyv] at HY0
    clear hb5 hyv HA2 HU4 HO4 hsl
    go_wp2_with fail
    refine HA3.out.mono ?_
    rintro e w6 ⟨rfl, hb6⟩
    have HB6 := Lib.hid (HB5.out.trans (hb6.mono HB5.out.size))
    obtain ⟨g, o, rfl, hg, c1⟩ := rdx_at (HU5.out.below hb6) (i := 0) (x := a) rfl
    obtain ⟨g2, o2, rfl, hg2, c2⟩ := rdx_at (HO5.out.below hb6) HY0.out
    have c1 : w6.cell? ⟨g, o, none⟩ = some (it a) := c1
    have c2 : w6.cell? ⟨g2, o2, none⟩ = some (it yv) := c2
    have hl0 : 0 < ln := by
      have := (List.getElem?_eq_some_iff.1 HY0.out).1
      rw [vls_len] at this
      have := HLN.out
      omega
    have hn0 := HN0.out
    clear hb6 hg hg2 HU5 HO5
    by_cases he : xv = a
    · subst he
      go_wp2
      go_ret
      exact ⟨rfl, HB6.out⟩
    · have q : (xv == a) = false := by simpa using he
      have hq := HQ2.out.resolve_left he
      obtain ⟨rfl, rfl⟩ := hq
      go_wp2
      go_ret
      exact ⟨rfl, HB6.out⟩
end Go.Proofs.YtomghpielgkigaaDoor
