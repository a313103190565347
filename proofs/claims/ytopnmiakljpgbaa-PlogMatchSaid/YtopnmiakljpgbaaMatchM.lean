/-
  Two logs that entries were put into: what they have then; whether a log has the terms of entries.
-/
import Derived.Test.YtopnmiakljpgbaaCheck
namespace Go.Proofs.Ytopnmiakljpgbaa
open Go.RowKit
/-- Has a log the terms of entries? -/
def sameTs (L M : List En) : Bool := decide (M.length ≤ L.length ∧ ∀ i, i < M.length → (M.getD i En.zero).term = (L.getD i En.zero).term)
theorem dif_same (L M : List En) : dif sameT L M = M.length ↔ sameTs L M = true := by
  unfold sameTs
  rw [decide_eq_true_eq]
  induction L generalizing M with
  | nil =>
    cases M with
    | nil => simp [dif]
    | cons y s => simp [dif]
  | cons x r ih =>
    cases M with
    | nil => simp [dif]
    | cons y s =>
      have hd : dif sameT (x :: r) (y :: s) = if sameT x y = true then dif sameT r s + 1 else 0 := rfl
      rw [hd]
      have e : sameT x y = true ↔ y.term = x.term := by unfold sameT; rw [decide_eq_true_eq]; exact eq_comm
      constructor
      · intro h
        by_cases hs : sameT x y = true
        · rw [if_pos hs] at h
          obtain ⟨h1, h2⟩ := (ih s).1 (by simpa using h)
          refine ⟨by simp; exact h1, fun i hi => ?_⟩
          cases i with
          | zero => simpa using e.1 hs
          | succ i => simpa using h2 i (by simpa using hi)
        · rw [if_neg hs] at h; simp at h
      · rintro ⟨h1, h2⟩
        have h0 := h2 0 (by simp)
        rw [if_pos (e.2 (by simpa using h0))]
        have := (ih s).2 ⟨by simpa using h1, fun i hi => by simpa using h2 (i + 1) (by simpa using hi)⟩
        simp [this]
theorem putM_base (base : Int) (M : List En) : putM base M base = M := if_neg (by omega)
theorem putN_base (base : Int) (L M : List En) : putN base L M base = dif sameT L M := by
  unfold putN putAt
  rw [putM_base, Int.sub_self]; rfl
theorem putS_base {base : Int} (h : 0 ≤ base) (L M : List En) : putS base L M base = sameTs L M := by
  unfold putS
  rw [putM_base, putN_base, decide_eq_false (show ¬ base < 0 by omega), decide_eq_false (show ¬ base + L.length < base by omega), Bool.false_or, Bool.false_or]
  rw [Bool.eq_iff_iff, decide_eq_true_eq]
  exact dif_same L M
theorem putI_base {base : Int} (h : 0 ≤ base) (L M : List En) : (putI base L M base = 0) ↔ sameTs L M = true := by
  unfold putI
  rw [putS_base h]
  split
  · rename_i h1; simp [h1]
  · rename_i h1
    constructor
    · intro h2; omega
    · intro h2; exact absurd h2 h1
theorem dif_pre (L M : List En) : ∀ i, i < dif sameT L M → (L.getD i En.zero).term = (M.getD i En.zero).term := by
  induction L generalizing M with
  | nil => intro i hi; simp [dif] at hi
  | cons x r ih =>
    cases M with
    | nil => intro i hi; simp [dif] at hi
    | cons y s =>
      intro i hi
      have hd : dif sameT (x :: r) (y :: s) = if sameT x y = true then dif sameT r s + 1 else 0 := rfl
      rw [hd] at hi
      by_cases hs : sameT x y = true
      · rw [if_pos hs] at hi
        cases i with
        | zero => simpa [sameT] using hs
        | succ i => simpa using ih s i (by omega)
      · rw [if_neg hs] at hi; omega
theorem putL_base {base : Int} (h : 0 ≤ base) (L M : List En) (k : Nat) (hk : k < M.length) : ∃ e, gtO base (putL base L M base) (base + (k + 1 : Nat)) = some e ∧ e.term = (M.getD k En.zero).term := by
  unfold putL
  rw [putS_base h, putM_base, putN_base, show putAt base base = 0 by unfold putAt; omega, Nat.zero_add]
  by_cases hs : sameTs L M = true
  · rw [if_pos hs]
    unfold sameTs at hs
    obtain ⟨h1, h2⟩ := of_decide_eq_true hs
    rw [gtO_at base L k (by omega)]
    exact ⟨_, rfl, (h2 k hk).symm⟩
  · rw [if_neg hs]
    obtain ⟨d1, d2⟩ := dif_le sameT L M
    have hlen : (L.take (dif sameT L M) ++ M.drop (dif sameT L M)).length = M.length := by
      rw [List.length_append, List.length_take, List.length_drop]; omega
    rw [gtO_at _ _ _ (by rw [hlen]; exact hk)]
    refine ⟨_, rfl, ?_⟩
    by_cases hk2 : k < dif sameT L M
    · rw [← dif_pre L M k hk2]
      rw [List.getD_eq_getElem?_getD, List.getD_eq_getElem?_getD, List.getElem?_append_left (by rw [List.length_take]; omega), List.getElem?_take, if_pos hk2]
    · rw [List.getD_eq_getElem?_getD, List.getD_eq_getElem?_getD, List.getElem?_append_right (by rw [List.length_take]; omega), List.getElem?_drop, List.length_take]
      congr 3
      omega
theorem putL_len {base : Int} (h : 0 ≤ base) (L M : List En) (k : Nat) (h1 : L.length ≤ k) (h2 : M.length ≤ k) : (putL base L M base).length ≤ 100 ∨ 50 < k := by
  unfold putL
  rw [putS_base h, putM_base, putN_base]
  split
  · omega
  · rw [List.length_append, List.length_take, List.length_drop]; omega
section
variable {w : World} {base bt : Int} {a : Option Addr} {n cap : Nat} {L M : List En} {u : Value}
set_option maxRecDepth 100000 in
set_option maxHeartbeats 3200000 in
theorem sameTerms_any (h : RdE w (.slice a n cap) L) (hu : RdE w u M) (hl : L.length ≤ 1000000) (hm : M.length ≤ 1000000) :
    Calls Try.prog 41 #[lv base bt (.slice a n cap), u] w fun e w' => e = .returned (.bool (sameTs L M)) ∧ Below w.heap.size w w' := by
  have hn := h.len
  subst hn
  obtain ⟨ua, uc, rfl, _⟩ := hu.shape
  have HV := Lib.hid h
  have HU := Lib.hid hu
  have HLB := Lib.hid (lb_new w base bt (.slice a L.length cap))
  have HB := Lib.hid (one_new w (.cells #[it base, it bt, .slice a L.length cap] 24))
  obtain ⟨R, hR⟩ : ∃ R, R = sameTs L M := ⟨_, rfl⟩
  rw [← hR]
  unfold sameTs at hR
  have HR := Lib.hid hR
  obtain ⟨m, hmm⟩ : ∃ m, m = L.length := ⟨_, rfl⟩
  obtain ⟨z, hzz⟩ : ∃ z, z = M.length := ⟨_, rfl⟩
  have HM := Lib.hid hmm
  have HZ := Lib.hid hzz
  rw [← hmm] at HV HLB HB hl ⊢
  rw [← hzz] at HU hm ⊢
  clear h hu hR hmm hzz
  by_cases hgt : m < z
  · have q1 : (m : Int) < (z : Int) := by omega
    have HF : Hid (R = false) := Lib.hid (by rw [HR.out]; exact decide_eq_false (fun h => by have := h.1; have := HM.out; have := HZ.out; omega))
    go_enter Try.func41, Try.ntmps41
    go_wp2
    go_ret
    exact ⟨by rw [HF.out]; rfl, HB.out⟩
  · have q1 : decide ((m : Int) < (z : Int)) = false := decide_eq_false (by omega)
    have q1' : decide (m < z) = false := decide_eq_false (by omega)
    go_enter Try.func41, Try.ntmps41
    go_upto_region 1 with fail
    generalize w.alloc _ = wA at *
    obtain ⟨c0, c1, c2⟩ := HLB.out
    go_wp2
    clear c0 c1 c2 q1 q1'
    go_loopw [5] (fun i wr => ∃ k : Nat, k ≤ z ∧ i = it (k : Int) ∧ (∀ i, i < k → (M.getD i En.zero).term = (L.getD i En.zero).term) ∧ Below wA.heap.size wA wr) (fun i _ => z - (intOf i).toNat)
    case atStart => exact ⟨0, by omega, rfl, (fun i hi => absurd hi (Nat.not_lt_zero _)), Below.refl _ _⟩
    case round =>
      obtain ⟨k, hk, rfl, hP, hbr⟩ := hrel
      have HP := Lib.hid hP
      have HBW := Lib.hid (HB.out.trans (hbr.mono HB.out.size))
      have HBR := Lib.hid hbr
      obtain ⟨c0, c1, c2⟩ := HLB.out.below hbr
      by_cases hlt : k < z
      · have q : (k : Int) < (z : Int) := by omega
        have q2 : k < m := by omega
        have q3 : (k : Int) < (m : Int) := by omega
        obtain ⟨x, hx⟩ : ∃ x, L[k]? = some x := ⟨_, List.getElem?_eq_getElem (by have := HM.out; omega)⟩
        obtain ⟨y, hy⟩ : ∃ y, M[k]? = some y := ⟨_, List.getElem?_eq_getElem (by have := HZ.out; omega)⟩
        obtain ⟨e1, g, o, rfl, hg, d0, _, _⟩ := HV.out.at hx
        obtain ⟨e2, g', o', rfl, hg', b0, _, _⟩ := HU.out.at hy
        have d0 := (HBW.out.cell (p := ⟨g, o + k * 3, none⟩) hg).trans d0
        have b0 := (HBW.out.cell (p := ⟨g', o' + k * 3, none⟩) hg').trans b0
        have hxy : (M.getD k En.zero).term = y.term ∧ (L.getD k En.zero).term = x.term := by
          rw [List.getD_eq_getElem?_getD, List.getD_eq_getElem?_getD, hx, hy]; exact ⟨rfl, rfl⟩
        have HXY := Lib.hid hxy
        clear hP hbr hx hy e1 e2 hxy
        by_cases ht : y.term = x.term
        · have hrel : ∀ i, i < k + 1 → (M.getD i En.zero).term = (L.getD i En.zero).term := by
            intro i hi
            rcases (by omega : i < k ∨ i = k) with h | rfl
            · exact HP.out i h
            · rw [HXY.out.1, HXY.out.2, ht]
          have HREL := Lib.hid hrel
          have r1 : (y.term == x.term) = true := by simpa using ht
          have r2 : (y.term != x.term) = false := by simpa using ht
          clear hrel ht
          go_wp2_with fail
          go_quiet (fail)
          go_wp2
          go_roundw
          case rel => exact ⟨k + 1, by omega, by go_num, HREL.out, HBR.out.trans ((below_drewN _ _).mono HBR.out.size)⟩
          case measure => simp [intOf]; omega
        · have HF : Hid (R = false) := Lib.hid (by rw [HR.out]; exact decide_eq_false (fun h => ht (by have := h.2 k (by have := HZ.out; omega); rw [HXY.out.1, HXY.out.2] at this; exact this)))
          have r1 : (y.term == x.term) = false := by simpa using ht
          have r2 : (y.term != x.term) = true := by simpa using ht
          clear ht
          go_wp2_with fail
          go_quiet (fail)
          go_wp2
          go_ret
          exact ⟨by rw [HF.out]; rfl, HBW.out.trans ((below_drewN _ _).mono HBW.out.size)⟩
      · have q : decide ((k : Int) < (z : Int)) = false := decide_eq_false (by omega)
        have q2 : decide (k < z) = false := decide_eq_false (by omega)
        have HF : Hid (R = true) := Lib.hid (by rw [HR.out]; exact decide_eq_true ⟨by have := HM.out; have := HZ.out; omega, fun i hi => hP i (by have := HZ.out; omega)⟩)
        clear hP hbr
        go_wp2
        go_ret
        exact ⟨by rw [HF.out]; rfl, HBW.out⟩
end
end Go.Proofs.Ytopnmiakljpgbaa
