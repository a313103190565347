/-
  The document's Slice; whether two logs, or two lists of entries, are the same.
-/
import Derived.Test.YtopnmiakljpgbaaSlice
namespace Go.Proofs.Ytopnmiakljpgbaa
open Go.RowKit
theorem take_drop_next (L : List En) (k mm i : Nat) (x : En) (h : L[i]? = some x) : ((L.take (i + 1)).drop k).take mm = if k ≤ i ∧ i - k < mm then ((L.take i).drop k).take mm ++ [x] else ((L.take i).drop k).take mm := by
  have hi := (List.getElem?_eq_some_iff.1 h).1
  have hl : (L.take i).length = i := by rw [List.length_take]; omega
  rw [take_succ_of h]
  by_cases hk : k ≤ i
  · rw [List.drop_append_of_le_length (by omega)]
    have hB : ((L.take i).drop k).length = i - k := by rw [List.length_drop, hl]
    obtain ⟨B, hBB⟩ : ∃ B, B = (L.take i).drop k := ⟨_, rfl⟩
    rw [← hBB] at hB ⊢
    by_cases hm : i - k < mm
    · rw [if_pos ⟨hk, hm⟩]
      have e1 : (B ++ [x]).take mm = B ++ [x] := List.take_of_length_le (by rw [List.length_append, hB]; simp; omega)
      have e2 : B.take mm = B := List.take_of_length_le (by omega)
      rw [e1, e2]
    · rw [if_neg (by omega), List.take_append_of_le_length (by omega)]
  · rw [if_neg (by omega), List.drop_eq_nil_of_le (by rw [List.length_append, hl]; simp; omega), List.drop_eq_nil_of_le (by omega)]
section
variable {w : World} {base bt : Int} {a : Option Addr} {n cap : Nat} {L : List En}
set_option maxRecDepth 100000 in
set_option maxHeartbeats 3200000 in
theorem rslice_any (h : RdE w (.slice a n cap) L) (hb : -1000 ≤ base ∧ base ≤ 1125899906842624) {fr most : Int} (hl : L.length ≤ 100000) :
    Calls Try.prog 19 #[lv base bt (.slice a n cap), it fr, it most] w fun e w' => ∃ v, e = .returned v ∧ OwnE w' w.heap.size v (slL base L fr most) ∧ Below w.heap.size w w' := by
  have hn := h.len
  subst hn
  obtain ⟨k, hk⟩ : ∃ k, k = slK base L.length fr := ⟨_, rfl⟩
  obtain ⟨mm, hmm⟩ : ∃ mm, mm = most.toNat := ⟨_, rfl⟩
  have hsl : slL base L fr most = (L.drop k).take mm := by unfold slL; rw [← hk, hmm]
  rw [hsl]
  have hki : ∀ i : Nat, i < L.length → (fr ≤ base + 1 + i ↔ k ≤ i) := by
    intro i hi
    rw [hk]; unfold slK
    rcases plc_cases base L.length fr with ⟨h1, h2⟩ | ⟨h1, h2⟩ | ⟨p, h1, hp, h2⟩ <;> rw [h2] <;> omega
  have HR := Lib.hid h
  have HKI := Lib.hid hki
  have HMM := Lib.hid hmm
  have HLB := Lib.hid (lb_new w base bt (.slice a L.length cap))
  have HB := Lib.hid (one_new w (.cells #[it base, it bt, .slice a L.length cap] 24))
  obtain ⟨m, hm⟩ : ∃ m, m = L.length := ⟨_, rfl⟩
  have HM := Lib.hid hm
  rw [← hm] at HR HLB HB hl ⊢
  obtain ⟨hb1, hb2⟩ := hb
  clear h hk hmm hsl hki hm
  go_enter Try.func19, Try.ntmps19
  go_upto_region 1 with fail
  generalize w.alloc _ = wA at *
  go_wp2
  go_loopw [7, 8] (fun ov i wr => ∃ j : Nat, j ≤ m ∧ i = it (j : Int) ∧ OwnE wr wA.heap.size ov (((L.take j).drop k).take mm) ∧ Below wA.heap.size wA wr) (fun _ i _ => m - (intOf i).toNat)
  case atStart => exact ⟨0, by omega, rfl, by simp; exact ownE_nil _ _, Below.refl _ _⟩
  case round =>
    obtain ⟨j, hj, rfl, ho, hbr⟩ := hrel
    have HBR := Lib.hid hbr
    have HBW := Lib.hid (HB.out.trans (hbr.mono HB.out.size))
    obtain ⟨c0, c1, c2⟩ := HLB.out.below hbr
    obtain ⟨oa, oc, rfl, _⟩ := ho.rd.shape
    clear hbr
    by_cases hlt : j < m
    · have q : (j : Int) < (m : Int) := by omega
      obtain ⟨x, hx⟩ : ∃ x, L[j]? = some x := ⟨_, List.getElem?_eq_getElem (by have := HM.out; omega)⟩
      obtain ⟨e1, g, o, rfl, hg, d0, d1, d2⟩ := (HR.out.below HBW.out).at hx
      have HN := Lib.hid (take_drop_next L k mm j x hx)
      have hT : (((L.take j).drop k).take mm).length = min mm (j - k) := by
        rw [List.length_take, List.length_drop, List.length_take]; have := HM.out; omega
      have hki := HKI.out j (by have := HM.out; omega)
      obtain ⟨T, hTT⟩ : ∃ T, T = ((L.take j).drop k).take mm := ⟨_, rfl⟩
      rw [← hTT] at ho hT HN ⊢
      obtain ⟨z, hz⟩ : ∃ z, z = T.length := ⟨_, rfl⟩
      rw [← hz] at ho hT ⊢
      have HO := Lib.hid ho
      have HZ := Lib.hid hz
      have hmm := HMM.out
      have hzj : z ≤ j := by omega
      clear hx e1 ho hTT hz
      by_cases hc : fr ≤ base + 1 + (j : Int)
      · by_cases hc2 : (z : Int) < most
        · have hcond : k ≤ j ∧ j - k < mm := by have := hki.1 hc; omega
          rw [if_pos hcond] at HN
          clear hcond hT hki hmm
          have HR2 := Lib.hid (rdE_one wr x)
          have hbn := one_new wr (.cells #[it x.term, it x.kind, .string x.data] 31)
          have HO2 := Lib.hid (HO.out.below hbn)
          have HB2 := Lib.hid (HBR.out.trans (hbn.mono HBR.out.size))
          have HN0 : Hid (T.length + [x].length ≤ 1000000) := Lib.hid (by rw [← HZ.out]; simp; omega)
          clear hbn
          go_wp2_with (at_builtin; refine wp_app_own rfl (.tmp 29) (.tmp 35) rfl rfl wA.heap.size _ T [x] rfl HO2.out _ rfl HR2.out HN0.out HB2.out.size ?_)
          intro v' w2 ho2 hb2
          rw [← HN.out] at ho2
          have HO3 := Lib.hid ho2
          have HB3 := Lib.hid (HB2.out.trans hb2)
          clear ho2 hb2
          go_wp2
          go_roundw
          case rel => exact ⟨j + 1, by omega, by go_num, HO3.out, HB3.out⟩
          case measure => simp [intOf]; omega
        · have r2 : decide ((z : Int) < most) = false := decide_eq_false hc2
          have hcond : ¬ (k ≤ j ∧ j - k < mm) := by omega
          rw [if_neg hcond] at HN
          rw [HZ.out] at HO
          clear hcond hT hki hmm
          go_wp2
          go_roundw
          case rel => exact ⟨j + 1, by omega, by go_num, by rw [HN.out, HZ.out]; exact HO.out, HBR.out⟩
          case measure => simp [intOf]; omega
      · have r1 : decide (fr ≤ base + 1 + (j : Int)) = false := decide_eq_false hc
        have hcond : ¬ (k ≤ j ∧ j - k < mm) := by have := mt hki.2 hc; omega
        rw [if_neg hcond] at HN
        rw [HZ.out] at HO
        clear hcond hT hki hmm
        go_wp2
        go_roundw
        case rel => exact ⟨j + 1, by omega, by go_num, by rw [HN.out, HZ.out]; exact HO.out, HBR.out⟩
        case measure => simp [intOf]; omega
    · have q : decide ((j : Int) < (m : Int)) = false := decide_eq_false (by omega)
      have q2 : decide (j < m) = false := decide_eq_false (by omega)
      have e : ((L.take j).drop k).take mm = (L.drop k).take mm := by rw [show L.take j = L from List.take_of_length_le (by have := HM.out; omega)]
      have HO := Lib.hid ho
      have HE := Lib.hid e
      have HS := Lib.hid HB.out.size
      clear ho e
      go_wp2
      go_ret
      exact ⟨_, rfl, by rw [← HE.out]; exact HO.out.weak HS.out, HBW.out⟩
end
theorem en_ne {x y : En} (h : x ≠ y) : ¬ x.term = y.term ∨ (x.term = y.term ∧ ¬ x.kind = y.kind) ∨ (x.term = y.term ∧ x.kind = y.kind ∧ ¬ x.data.toList = y.data.toList) := by
  by_cases h1 : x.term = y.term
  · by_cases h2 : x.kind = y.kind
    · refine .inr (.inr ⟨h1, h2, fun h3 => h ?_⟩)
      obtain ⟨a, b, c⟩ := x
      obtain ⟨a', b', c'⟩ := y
      simp only at h1 h2
      rw [En.mk.injEq]
      exact ⟨h1, h2, tl_eq.1 h3⟩
    · exact .inr (.inl ⟨h1, h2⟩)
  · exact .inl h1
set_option maxRecDepth 100000 in
set_option maxHeartbeats 12800000 in
theorem sameLog_any {w : World} {b1 t1 b2 t2 : Int} {a c : Option Addr} {n na m mc : Nat} {A B : List En} (hv : RdE w (.slice a n na) A) (hu : RdE w (.slice c m mc) B) (hl : A.length ≤ 1000000) :
    Calls Try.prog 46 #[lv b1 t1 (.slice a n na), lv b2 t2 (.slice c m mc)] w fun e w' => e = .returned (.bool (decide (b1 = b2 ∧ t1 = t2 ∧ A = B))) ∧ Below w.heap.size w w' := by
  have hn := hv.len
  have hm := hu.len
  subst hn hm
  have HV := Lib.hid hv
  have HU := Lib.hid hu
  have H2 := Lib.hid (two_new w #[it b1, it t1, .slice a A.length na] #[it b2, it t2, .slice c B.length mc] 24 24)
  obtain ⟨R, hR⟩ : ∃ R, R = decide (b1 = b2 ∧ t1 = t2 ∧ A = B) := ⟨_, rfl⟩
  have HR := Lib.hid hR
  rw [← hR]
  obtain ⟨n, hn⟩ : ∃ n, n = A.length := ⟨_, rfl⟩
  obtain ⟨m, hm⟩ : ∃ n, n = B.length := ⟨_, rfl⟩
  have HN := Lib.hid hn
  have HM := Lib.hid hm
  rw [← hn] at HV H2 hl ⊢
  rw [← hm] at HU H2 ⊢
  clear hv hu hR hn hm
  by_cases g1 : b1 = b2
  · subst g1
    by_cases g2 : t1 = t2
    · subst g2
      by_cases g3 : n = m
      · have HA : Hid (R = decide (A = B)) := Lib.hid (by rw [HR.out, decide_eq_decide]; simp)
        subst g3
        go_enter Try.func46, Try.ntmps46
        go_upto_region 1 with fail
        generalize (w.alloc _).alloc _ = wA at *
        obtain ⟨a1, a2, a3, a4⟩ := H2.out
        have HC1 := Lib.hid a1
        have HC2 := Lib.hid a2
        have HB := Lib.hid a4
        obtain ⟨c0, c1, c2⟩ := c3 a1
        obtain ⟨d0, d1, d2⟩ := c3 a2
        clear a1 a2 a3 a4 H2
        have r1 : (b1 != b1) = false := by simp
        have r2 : (t1 != t1) = false := by simp
        have r3 : ((n : Int) != (n : Int)) = false := by simp
        go_wp2
        clear c0 c1 c2 d0 d1 d2 r1 r2 r3
        go_loopw [5] (fun i wr => ∃ k : Nat, k ≤ n ∧ i = it (k : Int) ∧ A.take k = B.take k ∧ Below wA.heap.size wA wr) (fun i _ => n - (intOf i).toNat)
        case atStart => exact ⟨0, by omega, rfl, rfl, Below.refl _ _⟩
        case round =>
          obtain ⟨k, hk, rfl, hE, hbr⟩ := hrel
          have HE := Lib.hid hE
          have HBW := Lib.hid (HB.out.trans (hbr.mono HB.out.size))
          have HBR := Lib.hid hbr
          obtain ⟨c0, c1, c2⟩ := c3 (HC1.out.below hbr)
          obtain ⟨d0, d1, d2⟩ := c3 (HC2.out.below hbr)
          clear hE hbr
          by_cases hlt : k < n
          · have q : (k : Int) < (n : Int) := by omega
            obtain ⟨x, hx⟩ : ∃ s, A[k]? = some s := ⟨_, List.getElem?_eq_getElem (by have := HN.out; omega)⟩
            obtain ⟨y, hy⟩ : ∃ t, B[k]? = some t := ⟨_, List.getElem?_eq_getElem (by have := HM.out; omega)⟩
            obtain ⟨e1, g, o, rfl, hg, x0, x1, x2⟩ := (HV.out.below HBW.out).at hx
            obtain ⟨e2, g', o', rfl, hg', y0, y1, y2⟩ := (HU.out.below HBW.out).at hy
            have HX := Lib.hid hx
            have HY := Lib.hid hy
            clear hx hy e1 e2
            by_cases he : x = y
            · subst he
              go_wp2_with fail
              go_quiet (fail)
              go_wp2
              go_roundw
              case rel =>
                refine ⟨k + 1, by omega, by go_num, ?_, HBR.out.trans ((below_drewN _ _).mono HBR.out.size)⟩
                rw [take_succ_of HX.out, take_succ_of HY.out, HE.out]
              case measure => simp [intOf]; omega
            · have HF : Hid (R = false) := Lib.hid (by
                rw [HA.out, decide_eq_false_iff_not]; rintro rfl
                rw [HX.out] at HY; exact he (Option.some.inj HY.out))
              obtain ⟨xt, xk, xd⟩ := x
              obtain ⟨yt, yk, yd⟩ := y
              have hne := en_ne he
              simp only at hne x0 x1 x2 y0 y1 y2
              clear he HX HY
              rcases hne with h1 | ⟨rfl, h2⟩ | ⟨rfl, rfl, h3⟩
              all_goals
                go_wp2_with fail
                go_quiet (fail)
                go_wp2
                go_ret
                exact ⟨by rw [HF.out]; rfl, HBW.out.trans ((below_drewN _ _).mono HBW.out.size)⟩
          · have q : decide ((k : Int) < (n : Int)) = false := decide_eq_false (by omega)
            have q2 : decide (k < n) = false := decide_eq_false (by omega)
            have HF : Hid (R = true) := Lib.hid (by
              rw [HA.out, decide_eq_true_eq]
              have h1 := HE.out
              rw [show A.take k = A from List.take_of_length_le (by have := HN.out; omega), show B.take k = B from List.take_of_length_le (by have := HM.out; omega)] at h1
              exact h1)
            go_wp2
            go_ret
            exact ⟨by rw [HF.out]; rfl, HBW.out⟩
      · have HF : Hid (R = false) := Lib.hid (by rw [HR.out]; exact decide_eq_false (fun h => g3 (by rw [HN.out, HM.out, h.2.2])))
        have r1 : (b1 != b1) = false := by simp
        have r2 : (t1 != t1) = false := by simp
        have r3 : ((n : Int) != (m : Int)) = true := by simp; omega
        have r3' : ((n : Int) == (m : Int)) = false := by simp; omega
        have r3'' : (n == m) = false := by simpa using g3
        go_enter Try.func46, Try.ntmps46
        go_wp2
        go_ret
        exact ⟨by rw [HF.out]; rfl, H2.out.2.2.2⟩
    · have HF : Hid (R = false) := Lib.hid (by rw [HR.out]; exact decide_eq_false (fun h => g2 h.2.1))
      have r1 : (b1 != b1) = false := by simp
      have r2 : (t1 != t2) = true := by simpa using g2
      have r2' : (t1 == t2) = false := by simpa using g2
      go_enter Try.func46, Try.ntmps46
      go_wp2
      go_ret
      exact ⟨by rw [HF.out]; rfl, H2.out.2.2.2⟩
  · have HF : Hid (R = false) := Lib.hid (by rw [HR.out]; exact decide_eq_false (fun h => g1 h.1))
    have r1 : (b1 != b2) = true := by simpa using g1
    have r1' : (b1 == b2) = false := by simpa using g1
    go_enter Try.func46, Try.ntmps46
    go_wp2
    go_ret
    exact ⟨by rw [HF.out]; rfl, H2.out.2.2.2⟩
theorem sameEntries_any {w : World} {v u : Value} {A B : List En} (hv : RdE w v A) (hu : RdE w u B) (hl : A.length ≤ 1000000) :
    Calls Try.prog 17 #[v, u] w fun e w' => e = .returned (.bool (decide (A = B))) ∧ Below w.heap.size w w' := by
  obtain ⟨va, vc, rfl, _⟩ := hv.shape
  obtain ⟨ua, uc, rfl, _⟩ := hu.shape
  have HS := Lib.hid (sameLog_any (b1 := 0) (t1 := 0) (b2 := 0) (t2 := 0) hv hu hl)
  rw [show decide ((0 : Int) = 0 ∧ (0 : Int) = 0 ∧ A = B) = decide (A = B) by rw [decide_eq_decide]; simp] at HS
  obtain ⟨n, hn⟩ : ∃ n, n = A.length := ⟨_, rfl⟩
  obtain ⟨m, hm⟩ : ∃ n, n = B.length := ⟨_, rfl⟩
  rw [← hn, ← hm] at HS ⊢
  clear hv hu hn hm
  go_enter Try.func17, Try.ntmps17
  go_wp2_with fail
  refine HS.out.mono ?_
  rintro e w1 ⟨rfl, hb⟩
  have HB := Lib.hid hb
  clear hb
  go_wp2
  go_ret
  exact ⟨rfl, HB.out⟩
end Go.Proofs.Ytopnmiakljpgbaa
