/-
  The walk of the law PlogAsks: it returns true; no older memory is changed.
-/
import Derived.Test.YtopnmiakljpgbaaRSlice
namespace Go.Proofs.Ytopnmiakljpgbaa
open Go.RowKit
theorem fewL_small2 (L : List En) : ∀ e ∈ fewL L, e.data.size ≤ 1000000 := by
  intro e he
  obtain ⟨x, _, rfl⟩ := List.mem_map.1 he
  show (ctake x.data 60).size ≤ _
  rw [ctake_size]; omega
set_option maxRecDepth 100000 in
set_option maxHeartbeats 25600000 in
theorem lawAsks_any {w : World} {base bt i most : Int} {a : Option Addr} {n cap : Nat} {L0 : List En} (hI : I64 i) (h : RdE w (.slice a n cap) L0) :
    Calls Try.prog 3 #[lv base bt (.slice a n cap), it i, it most] w fun e w' => e = .returned (.bool true) ∧ Below w.heap.size w w' := by
  have HC := Lib.hid (Ce.new w 24 #[it base, it bt, .slice a n cap])
  have HB := Lib.hid (one_new w (.cells #[it base, it bt, .slice a n cap] 24))
  have HFA := Lib.hid (fun w' (hb : Below w.heap.size w w') => small_any (base := base) (bt := bt) (h.below hb))
  have HD := Lib.hid (fewL_small2 L0)
  have hl : (fewL L0).length ≤ 40 := by rw [fewL_length]; omega
  obtain ⟨L, hL⟩ : ∃ F, F = fewL L0 := ⟨_, rfl⟩
  rw [← hL] at HFA HD hl
  clear h hL
  go_enter Try.func3, Try.ntmps3
  go_upto_region 1 with fail
  generalize w.alloc _ = wA at *
  go_wp2_with fail
  refine (awake_any wA).mono ?_
  rintro e w1 ⟨rfl, hb1⟩
  have HC1 := Lib.hid (HC.out.below hb1)
  have HB1 := Lib.hid (HB.out.trans (hb1.mono HB.out.size))
  have HS1 := Lib.hid (show w.heap.size < w1.heap.size from Nat.lt_of_lt_of_le HC.out.lt hb1.size)
  clear hb1 HC HB
  obtain ⟨c0, c1, c2⟩ := c3 HC1.out
  go_wp2_with fail
  refine (HFA.out _ HB1.out).mono ?_
  rintro e w2 ⟨v, rfl, ho, hb2⟩
  obtain ⟨va, vc, rfl, _⟩ := ho.rd.shape
  have hc := HC1.out.below hb2
  obtain ⟨d0, d1, d2⟩ := c3 hc
  obtain ⟨f0, f1, f2⟩ := f3 hc
  have HC2 := Lib.hid hc
  have HB2 := Lib.hid (HB1.out.trans (hb2.mono HB1.out.size))
  have HO2 := Lib.hid (ho.weak (base' := w.heap.size + 1) HS1.out)
  obtain ⟨m, hm⟩ : ∃ m, m = L.length := ⟨_, rfl⟩
  rw [← hm] at HO2 ⊢
  have HM := Lib.hid hm
  clear ho hb2 hc c0 c1 c2 HFA HC1 HB1 HS1 hm
  go_upto_region 3 with fail
  generalize hw3 : World.setCell (World.setCell (World.setCell w2 _ _) _ _) _ _ = w3
  have HR := Lib.hid (show RdE w3 (.slice va m vc) L by rw [← hw3]; exact (HO2.out.set3 (Nat.lt_succ_self _) _ _ _).rd)
  have HC3 : Hid (Ce w3 w.heap.size 24 #[it base, it bt, .slice va m vc]) := Lib.hid (by rw [← hw3]; exact set3_ce HC2.out _ _ _)
  have HB3 : Hid (Below w.heap.size w w3) := Lib.hid (by rw [← hw3]; exact set3_below HB2.out (Nat.le_refl _) _ _ _)
  clear hw3 HO2 HC2 HB2 d0 d1 d2 f0 f1 f2
  obtain ⟨c0, c1, c2⟩ := c3 HC3.out
  have HSD := Lib.hid (sound_any (base := base) (bt := bt) (a := va) (n := m) (cap := vc) w3)
  by_cases hok : -1000 ≤ base ∧ base ≤ 1125899906842624
  · rw [decide_eq_true hok] at HSD
    have hlm : L.length ≤ 100000 := by omega
    have hbb : I64 base := ⟨by omega, by omega⟩
    have T1 := Lib.hid (fun w' (hb : Below w3.heap.size w3 w') => term_any (bt := bt) (HR.out.below hb) hbb hI (by omega))
    have T2 := Lib.hid (fun w' (hb : Below w3.heap.size w3 w') => rterm_any (bt := bt) (HR.out.below hb) hok hI (by omega))
    have G1 := Lib.hid (fun w' (hb : Below w3.heap.size w3 w') => get_any (bt := bt) (HR.out.below hb) hbb hI (by omega))
    have G2 := Lib.hid (fun w' (hb : Below w3.heap.size w3 w') => rget_any (bt := bt) (HR.out.below hb) hok hI (by omega))
    have S1 := Lib.hid (fun w' (hb : Below w3.heap.size w3 w') => slice_any (bt := bt) (most := most) (HR.out.below hb) hok hI (by omega))
    have S2 := Lib.hid (fun w' (hb : Below w3.heap.size w3 w') => rslice_any (bt := bt) (fr := i) (most := most) (HR.out.below hb) hok (by omega))
    have K1 := Lib.hid (fun w' (hb : Below w3.heap.size w3 w') => check_any (base := base) (bt := bt) (HR.out.below hb) (by omega) HD.out)
    have K2 := Lib.hid (fun w' (hb : Below w3.heap.size w3 w') => rcheck_any (base := base) (bt := bt) (HR.out.below hb) (by omega) HD.out)
    have L1 := Lib.hid (fun w' => last_any (base := base) (bt := bt) (a := va) (n := m) (cap := vc) hok (by have := HM.out; omega) w')
    have L2 := Lib.hid (fun w' => rlast_any (base := base) (bt := bt) (a := va) (n := m) (cap := vc) hok (by have := HM.out; omega) w')
    obtain ⟨tv, htv⟩ : ∃ t, t = (tmO base bt L i).getD 0 := ⟨_, rfl⟩
    obtain ⟨tb, htb⟩ : ∃ t, t = (tmO base bt L i).isSome := ⟨_, rfl⟩
    obtain ⟨ge, hge⟩ : ∃ t, t = (gtO base L i).getD En.zero := ⟨_, rfl⟩
    obtain ⟨gb, hgb⟩ : ∃ t, t = (gtO base L i).isSome := ⟨_, rfl⟩
    have hsll : (slL base L i most).length ≤ 1000000 := by unfold slL; rw [List.length_take, List.length_drop]; omega
    obtain ⟨sl, hsl⟩ : ∃ t, t = slL base L i most := ⟨_, rfl⟩
    obtain ⟨ck, hck⟩ : ∃ t, t = chE base bt L := ⟨_, rfl⟩
    obtain ⟨la, hla⟩ : ∃ t, t = base + (m : Int) := ⟨_, rfl⟩
    rw [← htv, ← htb] at T1 T2
    rw [← hge, ← hgb] at G1 G2
    rw [← hsl] at S1 S2 hsll
    rw [← hck] at K1 K2
    rw [← hla] at L1 L2
    obtain ⟨et, ek, ed⟩ := ge
    clear htv htb hge hgb hsl hck hla hlm hbb hok
    go_wp2_with fail
    refine HSD.out.mono ?_
    rintro e w4 ⟨rfl, hb⟩
    have B4 := Lib.hid hb
    clear hb c0 c1 c2 HSD
    obtain ⟨c0, c1, c2⟩ := c3 (HC3.out.below B4.out)
    go_wp2_with fail
    refine (T1.out _ B4.out).mono ?_
    rintro e w5 ⟨rfl, hb⟩
    have B5 := Lib.hid (B4.out.trans (hb.mono B4.out.size))
    clear hb c0 c1 c2
    obtain ⟨c0, c1, c2⟩ := c3 (HC3.out.below B5.out)
    go_wp2_with fail
    refine (T2.out _ B5.out).mono ?_
    rintro e w6 ⟨rfl, hb⟩
    have B6 := Lib.hid (B5.out.trans (hb.mono B5.out.size))
    clear hb c0 c1 c2
    obtain ⟨c0, c1, c2⟩ := c3 (HC3.out.below B6.out)
    go_wp2_with fail
    refine (G1.out _ B6.out).mono ?_
    rintro e w7 ⟨rfl, hb⟩
    have hbn := one_new w7 (.cells #[it et, it ek, .string ed] 31)
    have HX8 := Lib.hid (Ce.new w7 31 #[it et, it ek, .string ed])
    have B8 := Lib.hid (B6.out.trans ((hb.trans (hbn.mono hb.size)).mono B6.out.size))
    clear hb hbn c0 c1 c2
    go_upto_region 9 with fail
    generalize w7.alloc _ = w8 at *
    obtain ⟨bx, hbx⟩ : ∃ bx, bx = w7.heap.size := ⟨_, rfl⟩
    rw [← hbx] at HX8 ⊢
    clear hbx
    obtain ⟨c0, c1, c2⟩ := c3 (HC3.out.below B8.out)
    go_wp2_with fail
    refine (G2.out _ B8.out).mono ?_
    rintro e w9 ⟨rfl, hb⟩
    have hbn := one_new w9 (.cells #[it et, it ek, .string ed] 31)
    have hb10 := hb.trans (hbn.mono hb.size)
    have HX10 := Lib.hid (HX8.out.below hb10)
    have HY10 := Lib.hid (Ce.new w9 31 #[it et, it ek, .string ed])
    have B10 := Lib.hid (B8.out.trans (hb10.mono B8.out.size))
    clear hb hbn hb10 c0 c1 c2 HX8
    go_upto_region 10 with fail
    generalize w9.alloc _ = w10 at *
    obtain ⟨by', hby⟩ : ∃ bx, bx = w9.heap.size := ⟨_, rfl⟩
    rw [← hby] at HY10 ⊢
    clear hby
    have H0 : Hid (Below w10.heap.size w10 w10.drew) := Lib.hid (Below.refl _ w10).drew
    have HK := Lib.hid (fun w' (hb : Below w10.heap.size w10 w') => c3 (HC3.out.below (B10.out.trans (hb.mono B10.out.size))))
    go_region_held3 (fun w' => w'.cell? ⟨w.heap.size, 0, none⟩ = some (it base) ∧ w'.cell? ⟨w.heap.size, 1, none⟩ = some (it bt) ∧ w'.cell? ⟨w.heap.size, 2, none⟩ = some (.slice va m vc))
      (first | with_reducible exact HK.out _ B13.out | with_reducible exact HK.out _ B12.out | with_reducible exact HK.out _ B11.out | with_reducible exact HK.out _ H0.out | fail)
      (first
        | (go_at_call 18; refine (S1.out _ (B10.out.trans (H0.out.mono B10.out.size))).mono ?_; rintro e w11 ⟨v1, rfl, ho1, hb⟩; have B11 : Hid (Below w10.heap.size w10 w11) := Lib.hid (H0.out.trans (hb.mono H0.out.size)); have O1 := Lib.hid ho1.rd; clear ho1 hb)
        | (go_at_call 19; refine (S2.out _ (B10.out.trans (B11.out.mono B10.out.size))).mono ?_; rintro e w12 ⟨v2, rfl, ho2, hb⟩; have B12 : Hid (Below w10.heap.size w10 w12) := Lib.hid (B11.out.trans (hb.mono B11.out.size)); have O2 := Lib.hid ho2.rd; have O1' := Lib.hid (O1.out.below hb); clear ho2 hb)
        | (go_at_call 17; refine (sameEntries_any O1'.out O2.out hsll).mono ?_; rw [show decide (sl = sl) = true from decide_eq_true rfl]; rintro e w13 ⟨rfl, hb⟩; have B13 : Hid (Below w10.heap.size w10 w13) := Lib.hid (B12.out.trans (hb.mono B12.out.size)); clear hb)
        | fail)
    have HX13 := Lib.hid (HX10.out.below B13.out)
    have HY13 := Lib.hid (HY10.out.below B13.out)
    have B13' := Lib.hid (B10.out.trans (B13.out.mono B10.out.size))
    clear H0 HK
    have H0 : Hid (Below w13.heap.size w13 w13.drew) := Lib.hid (Below.refl _ w13).drew
    have HK := Lib.hid (fun w' (hb : Below w13.heap.size w13 w') => And.intro (c3 (HC3.out.below (B13'.out.trans (hb.mono B13'.out.size)))) (And.intro (c3 (HX13.out.below hb)) (c3 (HY13.out.below hb))))
    go_upto_region 11 with fail
    go_region_held3 (fun w' => (w'.cell? ⟨w.heap.size, 0, none⟩ = some (it base) ∧ w'.cell? ⟨w.heap.size, 1, none⟩ = some (it bt) ∧ w'.cell? ⟨w.heap.size, 2, none⟩ = some (.slice va m vc)) ∧
        (w'.cell? ⟨bx, 0, none⟩ = some (it et) ∧ w'.cell? ⟨bx, 1, none⟩ = some (it ek) ∧ w'.cell? ⟨bx, 2, none⟩ = some (.string ed)) ∧ (w'.cell? ⟨by', 0, none⟩ = some (it et) ∧ w'.cell? ⟨by', 1, none⟩ = some (it ek) ∧ w'.cell? ⟨by', 2, none⟩ = some (.string ed)))
      (first | with_reducible exact HK.out _ B17.out | with_reducible exact HK.out _ B16.out | with_reducible exact HK.out _ B15.out | with_reducible exact HK.out _ B14.out | with_reducible exact HK.out _ H0.out | fail)
      (first
        | (go_at_call 20; refine (K1.out _ (B13'.out.trans (H0.out.mono B13'.out.size))).mono ?_; rintro e w14 ⟨rfl, hb⟩; have B14 : Hid (Below w13.heap.size w13 w14) := Lib.hid (H0.out.trans (hb.mono H0.out.size)); clear hb)
        | (go_at_call 21; refine (K2.out _ (B13'.out.trans (B14.out.mono B13'.out.size))).mono ?_; rintro e w15 ⟨rfl, hb⟩; have B15 : Hid (Below w13.heap.size w13 w15) := Lib.hid (B14.out.trans (hb.mono B14.out.size)); clear hb)
        | (go_at_call 22; refine (L1.out _).mono ?_; rintro e w16 ⟨rfl, hb⟩; have B16 : Hid (Below w13.heap.size w13 w16) := Lib.hid (B15.out.trans (hb.mono B15.out.size)); clear hb)
        | (go_at_call 23; refine (L2.out _).mono ?_; rintro e w17 ⟨rfl, hb⟩; have B17 : Hid (Below w13.heap.size w13 w17) := Lib.hid (B16.out.trans (hb.mono B16.out.size)); clear hb)
        | fail)
    have BF := Lib.hid (HB3.out.trans ((B13'.out.trans (B17.out.mono B13'.out.size)).mono HB3.out.size))
    go_wp2
    go_ret
    exact ⟨rfl, BF.out⟩
  · rw [decide_eq_false hok] at HSD
    go_wp2_with fail
    refine HSD.out.mono ?_
    rintro e w4 ⟨rfl, hb⟩
    have HB4 := Lib.hid (HB3.out.trans (hb.mono HB3.out.size))
    clear hb
    go_wp2
    go_ret
    exact ⟨rfl, HB4.out⟩
end Go.Proofs.Ytopnmiakljpgbaa
