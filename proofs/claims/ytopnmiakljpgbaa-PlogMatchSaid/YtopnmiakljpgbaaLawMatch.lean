/-
  The walk of the law PlogMatch: it returns true; no older memory is changed.
-/
import Derived.Test.YtopnmiakljpgbaaMatchM
namespace Go.Proofs.Ytopnmiakljpgbaa
open Go.RowKit
theorem set_two {w : World} {n : Nat} {T : TypeId} {v0 v1 v2 : Value} (h : Ce w n T #[v0, v1, v2]) (x y : Value) : Ce ((w.setCell ⟨n, 0, none⟩ x).setCell ⟨n, 1, none⟩ y) n T #[x, y, v2] := (h.set x (i := 0)).set y (i := 1)
theorem fewL_small (L : List En) : ∀ e ∈ fewL L, e.data.size ≤ 1000000 := by
  intro e he
  obtain ⟨x, _, rfl⟩ := List.mem_map.1 he
  show (ctake x.data 60).size ≤ _
  rw [ctake_size]; omega
set_option maxRecDepth 100000 in
set_option maxHeartbeats 12800000 in
theorem lawMatch_any {w : World} {ba bta bb btb : Int} {a b : Option Addr} {na ca nb cb : Nat} {LA LB LE : List En} {u : Value} (hba : I64 ba) (ha : RdE w (.slice a na ca) LA) (hb : RdE w (.slice b nb cb) LB) (hu : RdE w u LE) :
    Calls Try.prog 8 #[lv ba bta (.slice a na ca), lv bb btb (.slice b nb cb), u] w fun e w' => e = .returned (.bool true) ∧ Below w.heap.size w w' := by
  have H2 := Lib.hid (two_new w #[it ba, it bta, .slice a na ca] #[it bb, it btb, .slice b nb cb] 24 24)
  have HFA := Lib.hid (fun w' (h : Below w.heap.size w w') => small_any (base := ba) (bt := bta) (ha.below h))
  have HFB := Lib.hid (fun w' (h : Below w.heap.size w w') => small_any (base := bb) (bt := btb) (hb.below h))
  have HFE := Lib.hid (fun w' (h : Below w.heap.size w w') => few_any (hu.below h))
  have HDA := Lib.hid (fewL_small LA)
  have HDB := Lib.hid (fewL_small LB)
  have hla : (fewL LA).length ≤ 40 := by rw [fewL_length]; omega
  have hlb : (fewL LB).length ≤ 40 := by rw [fewL_length]; omega
  have hle : (fewL LE).length ≤ 40 := by rw [fewL_length]; omega
  obtain ⟨FA, hFA⟩ : ∃ F, F = fewL LA := ⟨_, rfl⟩
  obtain ⟨FB, hFB⟩ : ∃ F, F = fewL LB := ⟨_, rfl⟩
  obtain ⟨E, hE⟩ : ∃ F, F = fewL LE := ⟨_, rfl⟩
  rw [← hFA] at HFA HDA hla
  rw [← hFB] at HFB HDB hlb
  rw [← hE] at HFE hle
  obtain ⟨wA, hwA⟩ : ∃ wA, wA = (w.alloc (.cells #[it ba, it bta, .slice a na ca] 24)).alloc (.cells #[it bb, it btb, .slice b nb cb] 24) := ⟨_, rfl⟩
  rw [← hwA] at H2
  clear ha hb hu hFA hFB hE
  go_enter Try.func8, Try.ntmps8
  go_wp2_with fail
  rw [← hwA]
  clear hwA
  refine (awake_any wA).mono ?_
  rintro e w1 ⟨rfl, hb1⟩
  obtain ⟨a1, a2, a3, a4⟩ := H2.out
  have HC3 := Lib.hid (a1.below hb1)
  have HC4 := Lib.hid (a2.below hb1)
  have HB1 := Lib.hid (a4.trans (hb1.mono a4.size))
  have HS := Lib.hid (show w.heap.size + 2 ≤ w1.heap.size by have := hb1.size; omega)
  obtain ⟨c0, c1, c2⟩ := c3 HC3.out
  clear H2 a1 a2 a3 a4 hb1
  go_wp2_with fail
  refine (HFA.out _ HB1.out).mono ?_
  rintro e w2 ⟨va, rfl, ho2, hb2⟩
  obtain ⟨xa, xc, rfl, _⟩ := ho2.rd.shape
  have hc3 := HC3.out.below hb2
  obtain ⟨d0, d1, d2⟩ := c3 hc3
  obtain ⟨f0, f1, f2⟩ := f3 hc3
  have HC4' := Lib.hid (HC4.out.below hb2)
  have HB2 := Lib.hid (HB1.out.trans (hb2.mono HB1.out.size))
  have HS2 := Lib.hid (Nat.le_trans HS.out hb2.size)
  have HO2 := Lib.hid (ho2.weak HS.out)
  have HC3' := Lib.hid hc3
  clear ho2 hb2 hc3 c0 c1 c2 HC3 HC4 HS HB1 HFA
  go_upto_region 3 with fail
  generalize hw3 : World.setCell (World.setCell (World.setCell w2 _ _) _ _) _ _ = w3
  have HO3 : Hid (OwnE w3 (w.heap.size + 2) (.slice xa FA.length xc) FA) := Lib.hid (by rw [← hw3]; exact HO2.out.set3 (by omega) _ _ _)
  have HC33 : Hid (Ce w3 w.heap.size 24 #[it ba, it bta, .slice xa FA.length xc]) := Lib.hid (by rw [← hw3]; exact set3_ce HC3'.out _ _ _)
  have HC34 : Hid (Ce w3 (w.heap.size + 1) 24 #[it bb, it btb, .slice b nb cb]) := Lib.hid (by rw [← hw3]; exact set3_keep HC4'.out (by omega) _ _ _)
  have HB3 : Hid (Below w.heap.size w w3) := Lib.hid (by rw [← hw3]; exact set3_below HB2.out (Nat.le_refl _) _ _ _)
  have HS3 : Hid (w.heap.size + 2 ≤ w3.heap.size) := Lib.hid (by rw [← hw3]; have := HS2.out; simpa using this)
  clear hw3 HO2 HC3' HC4' HB2 HS2 d0 d1 d2 f0 f1 f2
  obtain ⟨c0, c1, c2⟩ := c3 HC34.out
  go_wp2_with fail
  refine (HFB.out _ HB3.out).mono ?_
  rintro e w4 ⟨vb, rfl, ho4, hb4⟩
  obtain ⟨ya, yc, rfl, _⟩ := ho4.rd.shape
  have hc4 := HC34.out.below hb4
  obtain ⟨d0, d1, d2⟩ := c3 hc4
  obtain ⟨f0, f1, f2⟩ := f3 hc4
  have HC43 := Lib.hid (HC33.out.below hb4)
  have HC44 := Lib.hid hc4
  have HB4 := Lib.hid (HB3.out.trans (hb4.mono HB3.out.size))
  have HS4 := Lib.hid (Nat.le_trans HS3.out hb4.size)
  have HO4 := Lib.hid (HO3.out.below hb4)
  have HP4 := Lib.hid (ho4.weak HS3.out)
  clear ho4 hb4 hc4 c0 c1 c2 HC33 HC34 HS3 HB3 HFB HO3
  go_upto_region 4 with fail
  generalize hw5 : World.setCell (World.setCell (World.setCell w4 _ _) _ _) _ _ = w5
  have HO5 : Hid (OwnE w5 (w.heap.size + 2) (.slice xa FA.length xc) FA) := Lib.hid (by rw [← hw5]; exact HO4.out.set3 (by omega) _ _ _)
  have HP5 : Hid (OwnE w5 (w.heap.size + 2) (.slice ya FB.length yc) FB) := Lib.hid (by rw [← hw5]; exact HP4.out.set3 (by omega) _ _ _)
  have HC53 : Hid (Ce w5 w.heap.size 24 #[it ba, it bta, .slice xa FA.length xc]) := Lib.hid (by rw [← hw5]; exact set3_keep HC43.out (by omega) _ _ _)
  have HC54 : Hid (Ce w5 (w.heap.size + 1) 24 #[it bb, it btb, .slice ya FB.length yc]) := Lib.hid (by rw [← hw5]; exact set3_ce HC44.out _ _ _)
  have HB5 : Hid (Below w.heap.size w w5) := Lib.hid (by rw [← hw5]; exact set3_below HB4.out (Nat.le_succ _) _ _ _)
  have HS5 : Hid (w.heap.size + 2 ≤ w5.heap.size) := Lib.hid (by rw [← hw5]; have := HS4.out; simpa using this)
  clear hw5 HO4 HP4 HC43 HC44 HB4 HS4 d0 d1 d2 f0 f1 f2
  go_wp2_with fail
  refine (HFE.out _ HB5.out).mono ?_
  rintro e w6 ⟨ve, rfl, ho6, hb6⟩
  obtain ⟨za, zc, rfl, _⟩ := ho6.rd.shape
  have hc63 := HC53.out.below hb6
  have hc64 := HC54.out.below hb6
  obtain ⟨c0, c1, c2⟩ := c3 hc63
  obtain ⟨d0, d1, d2⟩ := c3 hc64
  obtain ⟨f0, f1, f2⟩ := f3 hc64
  have HC63 := Lib.hid hc63
  have HC64 := Lib.hid hc64
  have HB6 := Lib.hid (HB5.out.trans (hb6.mono HB5.out.size))
  have HO6 := Lib.hid (HO5.out.below hb6)
  have HP6 := Lib.hid (HP5.out.below hb6)
  have HQ6 := Lib.hid (ho6.weak HS5.out)
  clear ho6 hb6 hc63 hc64 HC53 HC54 HB5 HO5 HP5 HS5 HFE
  go_upto_region 7 with fail
  generalize hw7 : World.setCell (World.setCell w6 _ _) _ _ = w7
  have HO7 : Hid (RdE w7 (.slice xa FA.length xc) FA) := Lib.hid (by rw [← hw7]; exact ((HO6.out.set (show w.heap.size + 1 < w.heap.size + 2 by omega) _).set (show w.heap.size + 1 < w.heap.size + 2 by omega) _).rd)
  have HP7 : Hid (RdE w7 (.slice ya FB.length yc) FB) := Lib.hid (by rw [← hw7]; exact ((HP6.out.set (show w.heap.size + 1 < w.heap.size + 2 by omega) _).set (show w.heap.size + 1 < w.heap.size + 2 by omega) _).rd)
  have HQ7 : Hid (RdE w7 (.slice za E.length zc) E) := Lib.hid (by rw [← hw7]; exact ((HQ6.out.set (show w.heap.size + 1 < w.heap.size + 2 by omega) _).set (show w.heap.size + 1 < w.heap.size + 2 by omega) _).rd)
  have HC73 : Hid (Ce w7 w.heap.size 24 #[it ba, it bta, .slice xa FA.length xc]) := Lib.hid (by rw [← hw7]; exact (HC63.out.other (by omega) _ (i := 0)).other (by omega) _ (i := 1))
  have HC74 : Hid (Ce w7 (w.heap.size + 1) 24 #[it ba, it bta, .slice ya FB.length yc]) := Lib.hid (by rw [← hw7]; exact set_two HC64.out _ _)
  have HB7 : Hid (Below w.heap.size w w7) := Lib.hid (by rw [← hw7]; exact (HB6.out.setCell (p := ⟨w.heap.size + 1, 0, none⟩) (Nat.le_succ _) _).setCell (p := ⟨w.heap.size + 1, 1, none⟩) (Nat.le_succ _) _)
  clear hw7 HO6 HP6 HQ6 HC63 HC64 HB6 c0 c1 c2 d0 d1 d2 f0 f1 f2
  obtain ⟨z, hz⟩ : ∃ z, z = E.length := ⟨_, rfl⟩
  obtain ⟨ma, hma⟩ : ∃ z, z = FA.length := ⟨_, rfl⟩
  obtain ⟨mb, hmb⟩ : ∃ z, z = FB.length := ⟨_, rfl⟩
  have HZ := Lib.hid hz
  have HMA := Lib.hid hma
  have HMB := Lib.hid hmb
  rw [← hz] at HQ7 hle ⊢
  rw [← hma] at HO7 HC73 hla
  rw [← hmb] at HP7 HC74 hlb
  have HCA := Lib.hid (fun w' (h : Below w7.heap.size w7 w') => check_any (base := ba) (bt := bta) (HO7.out.below h) (by have := HMA.out; omega) HDA.out)
  have HCB := Lib.hid (fun w' (h : Below w7.heap.size w7 w') => check_any (base := ba) (bt := bta) (HP7.out.below h) (by have := HMB.out; omega) HDB.out)
  have hea : chE ba bta FA = 0 → 0 ≤ ba := by
    intro h
    unfold chE chk at h
    by_cases h0 : 0 ≤ ba
    · exact h0
    · rw [show idx ba = false from decide_eq_false (by omega)] at h
      simp at h
  obtain ⟨ea, hea2⟩ : ∃ e, e = chE ba bta FA := ⟨_, rfl⟩
  obtain ⟨eb, heb2⟩ : ∃ e, e = chE ba bta FB := ⟨_, rfl⟩
  rw [← hea2] at HCA hea
  rw [← heb2] at HCB
  have HEA := Lib.hid hea
  clear hz hma hmb hea hea2 heb2
  obtain ⟨c0, c1, c2⟩ := c3 HC73.out
  have H07 := Lib.hid (Below.refl w7.heap.size w7)
  by_cases g1 : ea = 0
  · subst g1
    go_wp2_with fail
    refine (HCA.out _ H07.out).mono ?_
    rintro e w8 ⟨rfl, hb8⟩
    have HB8 := Lib.hid hb8
    clear hb8 c0 c1 c2 H07
    obtain ⟨c0, c1, c2⟩ := c3 (HC73.out.below HB8.out)
    obtain ⟨d0, d1, d2⟩ := c3 (HC74.out.below HB8.out)
    by_cases g2 : eb = 0
    · subst g2
      go_wp2_with fail
      refine (HCB.out _ HB8.out).mono ?_
      rintro e w9 ⟨rfl, hb9⟩
      have HB9 := Lib.hid (HB8.out.trans (hb9.mono HB8.out.size))
      have HBW9 := Lib.hid (HB7.out.trans (HB9.out.mono HB7.out.size))
      clear hb9 c0 c1 c2 d0 d1 d2
      obtain ⟨c0, c1, c2⟩ := c3 (HC73.out.below HB9.out)
      have h0a : 0 ≤ ba := HEA.out (by simp)
      by_cases g3 : ba ≤ 1073741824
      · have r3 : decide (1073741824 < ba) = false := decide_eq_false (by omega)
        go_wp2
        clear c0 c1 c2 r3
        go_loopw [9] (fun i wr => ∃ k : Nat, 1 ≤ k ∧ i = it (k : Int) ∧ Below w9.heap.size w9 wr) (fun i _ => z - (intOf i).toNat)
        case atStart => exact ⟨1, Nat.le_refl _, rfl, Below.refl _ _⟩
        case round =>
          obtain ⟨k, hk, rfl, hbr⟩ := hrel
          have HBR := Lib.hid (HB9.out.trans (hbr.mono HB9.out.size))
          have HBW := Lib.hid (HBW9.out.trans (hbr.mono HBW9.out.size))
          have HBL := Lib.hid hbr
          clear hbr
          by_cases hlt : k < z
          · obtain ⟨j, rfl⟩ : ∃ j, k = j + 1 := ⟨k - 1, by omega⟩
            have q : ((j + 1 : Nat) : Int) < (z : Int) := by omega
            have q2 : j < z := by omega
            have q3 : (j : Int) < (z : Int) := by omega
            have q4 : (j : Int) + 1 < (z : Int) := by omega
            obtain ⟨x, hx⟩ : ∃ x, E[j + 1]? = some x := ⟨_, List.getElem?_eq_getElem (by have := HZ.out; omega)⟩
            obtain ⟨y, hy⟩ : ∃ y, E[j]? = some y := ⟨_, List.getElem?_eq_getElem (by have := HZ.out; omega)⟩
            obtain ⟨e1, g, o, rfl, hg, d0, _, _⟩ := (HQ7.out.below HBR.out).at hx
            obtain ⟨e2, g', o', he, hg', b0, _, _⟩ := (HQ7.out.below HBR.out).at hy
            cases he
            clear hx hy e1 e2
            by_cases ht : x.term < y.term
            · go_wp2_with fail
              go_quiet (fail)
              go_wp2
              go_ret
              exact ⟨rfl, HBW.out.trans ((below_drewN _ _).mono HBW.out.size)⟩
            · have r1 : decide (x.term < y.term) = false := decide_eq_false ht
              go_wp2_with fail
              go_quiet (fail)
              go_wp2
              go_roundw
              case rel => exact ⟨j + 1 + 1, by omega, by go_num, HBL.out.trans ((below_drewN _ _).mono HBL.out.size)⟩
              case measure => simp [intOf]; omega
          · have q : decide ((k : Int) < (z : Int)) = false := decide_eq_false (by omega)
            have q2 : decide (k < z) = false := decide_eq_false (by omega)
            have HPA := Lib.hid (fun w' (h : Below w7.heap.size w7 w') => put_any (base := ba) (bt := bta) (prev := ba) (HO7.out.below h) (HQ7.out.below h) ⟨by omega, by omega⟩ hba (by have := HMA.out; omega) (by have := HZ.out; omega))
            have HPB := Lib.hid (fun w' (h : Below w7.heap.size w7 w') => put_any (base := ba) (bt := bta) (prev := ba) (HP7.out.below h) (HQ7.out.below h) ⟨by omega, by omega⟩ hba (by have := HMB.out; omega) (by have := HZ.out; omega))
            have HTA := Lib.hid (fun w' (h : Below w7.heap.size w7 w') => sameTerms_any (base := ba) (bt := bta) (HO7.out.below h) (HQ7.out.below h) (by have := HMA.out; omega) (by have := HZ.out; omega))
            have HTB := Lib.hid (fun w' (h : Below w7.heap.size w7 w') => sameTerms_any (base := ba) (bt := bta) (HP7.out.below h) (HQ7.out.below h) (by have := HMB.out; omega) (by have := HZ.out; omega))
            have hia := putI_base h0a FA E
            have hib := putI_base h0a FB E
            have hga := putL_base h0a FA E
            have hgb := putL_base h0a FB E
            have hlA : (putL ba FA E ba).length ≤ 100 := (putL_len h0a FA E 40 (by have := HMA.out; omega) (by have := HZ.out; omega)).resolve_right (by decide)
            have hlB : (putL ba FB E ba).length ≤ 100 := (putL_len h0a FB E 40 (by have := HMB.out; omega) (by have := HZ.out; omega)).resolve_right (by decide)
            obtain ⟨XL, hXL⟩ : ∃ l, l = putL ba FA E ba := ⟨_, rfl⟩
            obtain ⟨YL, hYL⟩ : ∃ l, l = putL ba FB E ba := ⟨_, rfl⟩
            obtain ⟨pa, hpa⟩ : ∃ l, l = putI ba FA E ba := ⟨_, rfl⟩
            obtain ⟨pb, hpb⟩ : ∃ l, l = putI ba FB E ba := ⟨_, rfl⟩
            obtain ⟨sa, hsa⟩ : ∃ l, l = sameTs FA E := ⟨_, rfl⟩
            obtain ⟨sb, hsb⟩ : ∃ l, l = sameTs FB E := ⟨_, rfl⟩
            rw [← hXL] at HPA hga hlA
            rw [← hYL] at HPB hgb hlB
            rw [← hpa] at HPA hia
            rw [← hpb] at HPB hib
            rw [← hsa] at HTA hia
            rw [← hsb] at HTB hib
            have hia' : (pa == 0) = sa := by rw [Bool.eq_iff_iff]; simpa using hia
            have hib' : (pb == 0) = sb := by rw [Bool.eq_iff_iff]; simpa using hib
            have HGA := Lib.hid hga
            have HGB := Lib.hid hgb
            have HIA := Lib.hid hia'
            have HIB := Lib.hid hib'
            obtain ⟨c0, c1, c2⟩ := c3 (HC73.out.below HBR.out)
            clear hia hib hga hgb hXL hYL hpa hpb hsa hsb hia' hib' HCA HCB HEA HDA HDB
            go_wp2_with fail
            refine (HPA.out _ HBR.out).mono ?_
            rintro e w11 ⟨vx, rfl, ho11, hb11⟩
            obtain ⟨va1, vc1, rfl, _⟩ := ho11.rd.shape
            have hbn := one_new w11 (.cells #[it ba, it bta, .slice va1 XL.length vc1] 24)
            have HX12 := Lib.hid (ho11.rd.below hbn)
            have HCX12 := Lib.hid (Ce.new w11 24 #[it ba, it bta, .slice va1 XL.length vc1])
            have HB12 := Lib.hid (HBR.out.trans ((hb11.trans (hbn.mono hb11.size)).mono HBR.out.size))
            clear ho11 hb11 hbn c0 c1 c2
            go_upto_region 15 with fail
            generalize w11.alloc _ = w12 at *
            obtain ⟨bx, hbx⟩ : ∃ bx, bx = w11.heap.size := ⟨_, rfl⟩
            rw [← hbx] at HCX12 ⊢
            clear hbx
            obtain ⟨c0, c1, c2⟩ := c3 (HC74.out.below HB12.out)
            go_wp2_with fail
            refine (HPB.out _ HB12.out).mono ?_
            rintro e w13 ⟨vy, rfl, ho13, hb13⟩
            obtain ⟨va2, vc2, rfl, _⟩ := ho13.rd.shape
            have hbn := one_new w13 (.cells #[it ba, it bta, .slice va2 YL.length vc2] 24)
            have hb14 := hb13.trans (hbn.mono hb13.size)
            have HY14 := Lib.hid (ho13.rd.below hbn)
            have HCY14 := Lib.hid (Ce.new w13 24 #[it ba, it bta, .slice va2 YL.length vc2])
            have HX14 := Lib.hid (HX12.out.below hb14)
            have HCX14 := Lib.hid (HCX12.out.below hb14)
            have HB14 := Lib.hid (HB12.out.trans (hb14.mono HB12.out.size))
            clear ho13 hb13 hbn hb14 c0 c1 c2 HX12 HCX12
            go_upto_region 16 with fail
            generalize w13.alloc _ = w14 at *
            obtain ⟨by', hby⟩ : ∃ bx, bx = w13.heap.size := ⟨_, rfl⟩
            rw [← hby] at HCY14 ⊢
            clear hby
            have HBW14 := Lib.hid (HB7.out.trans (HB14.out.mono HB7.out.size))
            go_wp2
            go_loopw [14, 15, 16, 17, 18] (fun i _ _ _ _ wr => ∃ k : Nat, k ≤ z ∧ i = it (k : Int) ∧ Below w14.heap.size w14 wr) (fun i _ _ _ _ _ => z - (intOf i).toNat)
            case atStart => exact ⟨0, by omega, rfl, Below.refl _ _⟩
            case round =>
              obtain ⟨k, hk, rfl, hbr⟩ := hrel
              have HBR2 := Lib.hid hbr
              have HB72 := Lib.hid (HB14.out.trans (hbr.mono HB14.out.size))
              have HBW2 := Lib.hid (HBW14.out.trans (hbr.mono HBW14.out.size))
              obtain ⟨c0, c1, c2⟩ := c3 (HC73.out.below HB72.out)
              obtain ⟨d0, d1, d2⟩ := c3 (HCX14.out.below hbr)
              clear hbr
              by_cases hlt : k < z
              · have q : (k : Int) < (z : Int) := by omega
                obtain ⟨ex, hex1, hex2⟩ := HGA.out k (by have := HZ.out; omega)
                obtain ⟨ey, hey1, hey2⟩ := HGB.out k (by have := HZ.out; omega)
                have ek : ba + ((k + 1 : Nat) : Int) = ba + 1 + (k : Int) := by omega
                rw [ek] at hex1 hey1
                obtain ⟨x, hx⟩ : ∃ x, E[k]? = some x := ⟨_, List.getElem?_eq_getElem (by have := HZ.out; omega)⟩
                have hxt : (E.getD k En.zero).term = x.term := by rw [List.getD_eq_getElem?_getD, hx]; rfl
                rw [hxt] at hex2 hey2
                have HG1 := Lib.hid (fun w' (h : Below w14.heap.size w14 w') => get_any (base := ba) (bt := bta) (i := ba + 1 + (k : Int)) (HX14.out.below h) ⟨by omega, by omega⟩ ⟨by omega, by omega⟩ (by omega))
                have HG2 := Lib.hid (fun w' (h : Below w14.heap.size w14 w') => get_any (base := ba) (bt := bta) (i := ba + 1 + (k : Int)) (HY14.out.below h) ⟨by omega, by omega⟩ ⟨by omega, by omega⟩ (by omega))
                rw [hex1] at HG1
                rw [hey1] at HG2
                obtain ⟨e1, g, o, rfl, hg, b0, _, _⟩ := HQ7.out.at hx
                have HCE := Lib.hid (fun w' (h : Below w7.heap.size w7 w') => (h.cell (p := ⟨g, o + k * 3, none⟩) hg).trans b0)
                have HXX := Lib.hid (And.intro hex2 hey2)
                clear hex1 hey1 ek hx hxt e1 hex2 hey2 b0
                go_wp2_with fail
                refine (HG1.out _ HBR2.out).mono ?_
                rintro e w15 ⟨rfl, hb15⟩
                have hbn := one_new w15 (.cells #[it ex.term, it ex.kind, .string ex.data] 31)
                have HB16 := Lib.hid (HBR2.out.trans ((hb15.trans (hbn.mono hb15.size)).mono HBR2.out.size))
                have HC16 := Lib.hid (Ce.new w15 31 #[it ex.term, it ex.kind, .string ex.data])
                clear hb15 hbn c0 c1 c2 d0 d1 d2
                go_upto_region 20 with fail
                generalize w15.alloc _ = w16 at *
                obtain ⟨b1, hb1⟩ : ∃ bx, bx = w15.heap.size := ⟨_, rfl⟩
                rw [← hb1] at HC16 ⊢
                clear hb1
                obtain ⟨c0, c1, c2⟩ := c3 (HC73.out.below (HB14.out.trans (HB16.out.mono HB14.out.size)))
                obtain ⟨d0, d1, d2⟩ := c3 (HCY14.out.below HB16.out)
                go_wp2_with fail
                refine (HG2.out _ HB16.out).mono ?_
                rintro e w17 ⟨rfl, hb17⟩
                have hbn := one_new w17 (.cells #[it ey.term, it ey.kind, .string ey.data] 31)
                have hb18 := hb17.trans (hbn.mono hb17.size)
                have HB18 := Lib.hid (HB16.out.trans (hb18.mono HB16.out.size))
                have HC18 := Lib.hid (HC16.out.below hb18)
                have HD18 := Lib.hid (Ce.new w17 31 #[it ey.term, it ey.kind, .string ey.data])
                clear hb17 hb18 hbn c0 c1 c2 d0 d1 d2 HC16
                go_upto_region 21 with fail
                generalize w17.alloc _ = w18 at *
                obtain ⟨b2, hb2⟩ : ∃ bx, bx = w17.heap.size := ⟨_, rfl⟩
                rw [← hb2] at HD18 ⊢
                clear hb2
                have HB78 := Lib.hid (HB14.out.trans (HB18.out.mono HB14.out.size))
                obtain ⟨c0, c1, c2⟩ := c3 HC18.out
                obtain ⟨d0, d1, d2⟩ := c3 HD18.out
                have t0 := HCE.out _ HB78.out
                obtain ⟨hx1, hx2⟩ := HXX.out
                rw [hx1] at c0
                rw [hx2] at d0
                clear hx1 hx2
                have r1 : (x.term == x.term) = true := by simp
                have r2 : (x.term != x.term) = false := by simp
                go_quiet (fail)
                go_wp2
                go_roundw
                case rel => exact ⟨k + 1, by omega, by go_num, HB18.out.trans ((below_drewN _ _).mono HB18.out.size)⟩
                case measure => simp [intOf]; omega
              · have q : decide ((k : Int) < (z : Int)) = false := decide_eq_false (by omega)
                have q2 : decide (k < z) = false := decide_eq_false (by omega)
                go_wp2_with fail
                refine (HTA.out _ HB72.out).mono ?_
                rintro e w15 ⟨rfl, hb15⟩
                have HB15 := Lib.hid (HB72.out.trans (hb15.mono HB72.out.size))
                clear hb15 c0 c1 c2 d0 d1 d2
                obtain ⟨c0, c1, c2⟩ := c3 (HC74.out.below HB15.out)
                go_wp2_with fail
                refine (HTB.out _ HB15.out).mono ?_
                rintro e w16 ⟨rfl, hb16⟩
                have HB16 := Lib.hid (HB7.out.trans ((HB15.out.trans (hb16.mono HB15.out.size)).mono HB7.out.size))
                have r1 := HIA.out
                have r2 := HIB.out
                clear hb16 c0 c1 c2
                cases sa <;> cases sb
                all_goals
                  go_wp2
                  go_ret
                  exact ⟨rfl, HB16.out⟩
      · have r3 : 1073741824 < ba := by omega
        go_wp2
        go_ret
        exact ⟨rfl, HBW9.out⟩
    · have r2 : (eb != 0) = true := by simpa using g2
      have r2' : (eb == 0) = false := by simpa using g2
      go_wp2_with fail
      refine (HCB.out _ HB8.out).mono ?_
      rintro e w9 ⟨rfl, hb9⟩
      have HB9 := Lib.hid (HB7.out.trans ((HB8.out.trans (hb9.mono HB8.out.size)).mono HB7.out.size))
      clear hb9
      go_wp2
      go_ret
      exact ⟨rfl, HB9.out⟩
  · have r1 : (ea != 0) = true := by simpa using g1
    have r1' : (ea == 0) = false := by simpa using g1
    go_wp2_with fail
    refine (HCA.out _ H07.out).mono ?_
    rintro e w8 ⟨rfl, hb8⟩
    have HB8 := Lib.hid (HB7.out.trans (hb8.mono HB7.out.size))
    clear hb8
    go_wp2
    go_ret
    exact ⟨rfl, HB8.out⟩
end Go.Proofs.Ytopnmiakljpgbaa
