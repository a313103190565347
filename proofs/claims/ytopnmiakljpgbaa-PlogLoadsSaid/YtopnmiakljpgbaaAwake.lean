/-
  The chapter's examples, and what the laws ask first.
-/
import Derived.Test.YtopnmiakljpgbaaData
namespace Go.Proofs.Ytopnmiakljpgbaa
open Go.RowKit
def ex1 : En := ⟨1, 0, ⟨#[]⟩⟩
def ex2 : En := ⟨2, 0, ⟨#[]⟩⟩
def ex3 : En := ⟨3, 0, ⟨#[]⟩⟩
theorem example_any (w : World) : Calls Try.prog 43 #[] w fun e w' => ∃ v, e = .returned (lv 2 1 v) ∧ OwnE w' w.heap.size v [ex1, ex2] ∧ Below w.heap.size w w' := by
  have H2 := two_new w #[it 2, it 1, .slice (some ⟨w.heap.size + 1, 0, none⟩) 2 2] #[it 1, it 0, .string ⟨#[]⟩, it 2, it 0, .string ⟨#[]⟩] 24 31
  obtain ⟨a1, a2, a3, a4⟩ := H2
  have HO : Hid (OwnE ((w.alloc (.cells #[it 2, it 1, .slice (some ⟨w.heap.size + 1, 0, none⟩) 2 2] 24)).alloc (.cells #[it 1, it 0, .string ⟨#[]⟩, it 2, it 0, .string ⟨#[]⟩] 31)) w.heap.size (.slice (some ⟨w.heap.size + 1, 0, none⟩) 2 2) [ex1, ex2]) := Lib.hid
    ⟨rfl, .inr ⟨w.heap.size + 1, 2, _, rfl, Nat.le_succ _, a2, Nat.le_refl _, by decide, rfl, rfl⟩⟩
  have HB := Lib.hid a4
  have HC := Lib.hid a1
  clear a1 a2 a3 a4
  go_enter Try.func43, Try.ntmps43
  go_wp2
  refine bodyPost_ret (resL rfl rfl HC.out) rfl ?_
  exact ⟨_, rfl, HO.out, HB.out⟩
theorem rdE_new (w : World) (L : List En) (hn : L.length ≤ 100000) : RdE (w.alloc (.cells (ecs L).toArray 31)) (.slice (some ⟨w.heap.size, 0, none⟩) L.length L.length) L :=
  rdE_of rfl (Nat.le_refl _) (by unfold maxLen; omega) (fun j u hu => World.news_of_block (cs := (ecs L).toArray) (t := 31) (fr := (0, 0)) (heap_alloc_new w _) j u (by simpa using hu))
theorem rdN_new (w : World) (L : List Int) (hn : L.length ≤ 100000) : RdN (w.alloc (.cells (ivs L).toArray 3)) (.slice (some ⟨w.heap.size, 0, none⟩) L.length L.length) L := by
  refine ⟨_, _, rfl, Nat.le_refl _, by unfold maxLen; omega, .inr ⟨_, 0, rfl, fun i x hx => ?_⟩⟩
  have := World.news_of_block (cs := (ivs L).toArray) (t := 3) (fr := (0, 0)) (heap_alloc_new w _) i (it x) (by simp [hx])
  rw [add_any] at this
  exact this
set_option maxRecDepth 100000 in
set_option maxHeartbeats 6400000 in
theorem awake_any (w : World) : Calls Try.prog 10 #[] w fun e w' => e = .returned (.bool true) ∧ Below w.heap.size w w' := by
  have HX := Lib.hid (example_any w)
  go_enter Try.func10, Try.ntmps10
  go_wp2_with fail
  refine HX.out.mono ?_
  rintro e w1 ⟨v, rfl, ho, hb1⟩
  obtain ⟨va, vc, rfl, _⟩ := ho.rd.shape
  have hb2 := hb1.trans ((one_new w1 (.cells #[it 2, it 1, .slice va 2 vc] 24)).mono hb1.size)
  have HR := Lib.hid (ho.rd.below (one_new w1 (.cells #[it 2, it 1, .slice va 2 vc] 24)))
  have HLB := Lib.hid (lb_new w1 2 1 (.slice va 2 vc))
  have HB2 := Lib.hid hb2
  clear HX ho hb1 hb2
  have hln : [ex1, ex2].length = 2 := rfl
  rw [hln] at HR ⊢
  obtain ⟨wB, hwB⟩ : ∃ wB, wB = w1.alloc (.cells #[it 2, it 1, .slice va 2 vc] 24) := ⟨_, rfl⟩
  obtain ⟨B, hB⟩ : ∃ B, B = w1.heap.size := ⟨_, rfl⟩
  rw [← hwB] at HR HLB HB2
  rw [← hB] at HLB
  have T2 := Lib.hid (fun w' (hb : Below wB.heap.size wB w') => term_any (base := 2) (bt := 1) (i := 2) (HR.out.below hb) ⟨by decide, by decide⟩ ⟨by decide, by decide⟩ (by decide))
  have T4 := Lib.hid (fun w' (hb : Below wB.heap.size wB w') => term_any (base := 2) (bt := 1) (i := 4) (HR.out.below hb) ⟨by decide, by decide⟩ ⟨by decide, by decide⟩ (by decide))
  have T5 := Lib.hid (fun w' (hb : Below wB.heap.size wB w') => term_any (base := 2) (bt := 1) (i := 5) (HR.out.below hb) ⟨by decide, by decide⟩ ⟨by decide, by decide⟩ (by decide))
  rw [show tmO 2 1 [ex1, ex2] 2 = some 1 from rfl] at T2
  rw [show tmO 2 1 [ex1, ex2] 4 = some 2 from rfl] at T4
  rw [show tmO 2 1 [ex1, ex2] 5 = none from rfl] at T5
  have P1 := Lib.hid (fun w' (hb : Below wB.heap.size wB w') v (hv : RdE w' v [ex3]) => put_any (base := 2) (bt := 1) (prev := 3) (HR.out.below hb) hv ⟨by decide, by decide⟩ ⟨by decide, by decide⟩ (by decide) (by decide))
  have P2 := Lib.hid (fun w' (hb : Below wB.heap.size wB w') v (hv : RdE w' v [ex2, ex2]) => put_any (base := 2) (bt := 1) (prev := 3) (HR.out.below hb) hv ⟨by decide, by decide⟩ ⟨by decide, by decide⟩ (by decide) (by decide))
  rw [show putI 2 [ex1, ex2] [ex3] 3 = 4 from rfl, show putL 2 [ex1, ex2] [ex3] 3 = [ex1, ex3] from rfl] at P1
  rw [show putI 2 [ex1, ex2] [ex2, ex2] 3 = 5 from rfl, show putL 2 [ex1, ex2] [ex2, ex2] 3 = [ex1, ex2, ex2] from rfl] at P2
  have LA := Lib.hid (fun w' => last_any (base := 2) (bt := 1) (a := va) (n := 2) (cap := vc) ⟨by decide, by decide⟩ (by decide) w')
  have N1 := Lib.hid (fun w' (hb : Below wB.heap.size wB w') => newer_any (base := 2) (bt := 1) (last := 4) (HR.out.below hb) ⟨by decide, by decide⟩ ⟨by decide, by decide⟩ 2 (by decide))
  have N2 := Lib.hid (fun w' (hb : Below wB.heap.size wB w') => newer_any (base := 2) (bt := 1) (last := 3) (HR.out.below hb) ⟨by decide, by decide⟩ ⟨by decide, by decide⟩ 2 (by decide))
  have N3 := Lib.hid (fun w' (hb : Below wB.heap.size wB w') => newer_any (base := 2) (bt := 1) (last := 1) (HR.out.below hb) ⟨by decide, by decide⟩ ⟨by decide, by decide⟩ 3 (by decide))
  rw [show decide ((2 : Int) > atT 1 [ex1, ex2] [ex1, ex2].length ∨ ((2 : Int) = atT 1 [ex1, ex2] [ex1, ex2].length ∧ (4 : Int) ≥ 2 + [ex1, ex2].length)) = true from by decide] at N1
  rw [show decide ((2 : Int) > atT 1 [ex1, ex2] [ex1, ex2].length ∨ ((2 : Int) = atT 1 [ex1, ex2] [ex1, ex2].length ∧ (3 : Int) ≥ 2 + [ex1, ex2].length)) = false from by decide] at N2
  rw [show decide ((3 : Int) > atT 1 [ex1, ex2] [ex1, ex2].length ∨ ((3 : Int) = atT 1 [ex1, ex2] [ex1, ex2].length ∧ (1 : Int) ≥ 2 + [ex1, ex2].length)) = true from by decide] at N3
  go_wp2_with fail
  rw [← hwB, ← hB]
  clear hwB hB
  have HZ := Lib.hid (Below.refl wB.heap.size wB)
  obtain ⟨c0, c1, c2⟩ := HLB.out
  refine (T2.out _ HZ.out).mono ?_
  rintro e w2 ⟨rfl, hb⟩
  have H2 := Lib.hid hb
  obtain ⟨c0, c1, c2⟩ := HLB.out.below hb
  clear hb
  go_wp2_with fail
  refine (T4.out _ H2.out).mono ?_
  rintro e w3 ⟨rfl, hb⟩
  have H3 := Lib.hid (H2.out.trans (hb.mono H2.out.size))
  clear hb c0 c1 c2
  obtain ⟨c0, c1, c2⟩ := HLB.out.below H3.out
  go_wp2_with fail
  refine (T5.out _ H3.out).mono ?_
  rintro e w4 ⟨rfl, hb⟩
  have H4 := Lib.hid (H3.out.trans (hb.mono H3.out.size))
  clear hb c0 c1 c2
  obtain ⟨c0, c1, c2⟩ := HLB.out.below H4.out
  go_wp2_with fail
  have hbn := one_new w4 (.cells (ecs [ex3]).toArray 31)
  refine (P1.out _ (H4.out.trans (hbn.mono H4.out.size)) _ (rdE_new w4 [ex3] (by decide))).mono ?_
  rintro e w5 ⟨v5, rfl, ho5, hb⟩
  have hb5 := hbn.trans (hb.mono hbn.size)
  obtain ⟨a5, k5, rfl, _⟩ := ho5.rd.shape
  have HE5 : Hid (Ce (w5.alloc (.cells #[it 2, it 1, .slice a5 2 k5] 24)) w5.heap.size 24 #[it 2, it 1, .slice a5 2 k5]) := Lib.hid (Ce.new _ _ _)
  have hb6 := hb5.trans ((one_new w5 (.cells #[it 2, it 1, .slice a5 2 k5] 24)).mono hb5.size)
  have H6 : Hid (Below wB.heap.size wB (w5.alloc (.cells #[it 2, it 1, .slice a5 2 k5] 24))) := Lib.hid (H4.out.trans (hb6.mono H4.out.size))
  have hln2 : [ex1, ex3].length = 2 := rfl
  rw [hln2]
  clear hbn ho5 hb hb5 hb6 hln2 c0 c1 c2 hln
  obtain ⟨wC, hwC⟩ : ∃ wC, wC = w5.alloc (.cells #[it 2, it 1, .slice a5 2 k5] 24) := ⟨_, rfl⟩
  obtain ⟨C, hC⟩ : ∃ C, C = w5.heap.size := ⟨_, rfl⟩
  rw [← hwC] at HE5 H6
  rw [← hC] at HE5
  go_upto_region 6 with fail
  rw [← hwC, ← hC]
  clear hwC hC
  obtain ⟨c0, c1, c2⟩ := HLB.out.below H6.out
  go_wp2_with fail
  have hbn := one_new wC (.cells (ecs [ex2, ex2]).toArray 31)
  refine (P2.out _ (H6.out.trans (hbn.mono H6.out.size)) _ (rdE_new wC [ex2, ex2] (by decide))).mono ?_
  rintro e w7 ⟨v7, rfl, ho7, hb⟩
  have hb7 := hbn.trans (hb.mono hbn.size)
  obtain ⟨a7, k7, rfl, _⟩ := ho7.rd.shape
  have HE7 : Hid (Ce (w7.alloc (.cells #[it 2, it 1, .slice a7 3 k7] 24)) w7.heap.size 24 #[it 2, it 1, .slice a7 3 k7]) := Lib.hid (Ce.new _ _ _)
  have hb8 := hb7.trans ((one_new w7 (.cells #[it 2, it 1, .slice a7 3 k7] 24)).mono hb7.size)
  have H8 : Hid (Below wB.heap.size wB (w7.alloc (.cells #[it 2, it 1, .slice a7 3 k7] 24))) := Lib.hid (H6.out.trans (hb8.mono H6.out.size))
  have HE6 := Lib.hid (HE5.out.below hb8)
  have hln2 : [ex1, ex2, ex2].length = 3 := rfl
  rw [hln2]
  clear hbn ho7 hb hb7 hb8 hln2 c0 c1 c2
  obtain ⟨wD, hwD⟩ : ∃ wD, wD = w7.alloc (.cells #[it 2, it 1, .slice a7 3 k7] 24) := ⟨_, rfl⟩
  obtain ⟨D, hD⟩ : ∃ D, D = w7.heap.size := ⟨_, rfl⟩
  rw [← hwD] at HE6 HE7 H8
  rw [← hD] at HE7
  go_upto_region 7 with fail
  rw [← hwD, ← hD]
  clear hwD hD
  obtain ⟨c0, c1, c2⟩ := HLB.out.below H8.out
  go_wp2_with fail
  refine (LA.out wD).mono ?_
  rintro e w9 ⟨rfl, hb⟩
  have H9 := Lib.hid (H8.out.trans (hb.mono H8.out.size))
  have HE8 := Lib.hid (HE6.out.below hb)
  have HE9 := Lib.hid (HE7.out.below hb)
  clear hb c0 c1 c2
  obtain ⟨c0, c1, c2⟩ := HLB.out.below H9.out
  obtain ⟨d0, d1, d2⟩ := c3 HE8.out
  obtain ⟨e0, e1, e2⟩ := c3 HE9.out
  go_wp2_with fail
  refine (N1.out _ H9.out).mono ?_
  rintro e w10 ⟨rfl, hb⟩
  have H10 := Lib.hid (H9.out.trans (hb.mono H9.out.size))
  clear hb c0 c1 c2 d0 d1 d2 e0 e1 e2
  obtain ⟨c0, c1, c2⟩ := HLB.out.below H10.out
  go_wp2_with fail
  refine (N2.out _ H10.out).mono ?_
  rintro e w11 ⟨rfl, hb⟩
  have H11 := Lib.hid (H10.out.trans (hb.mono H10.out.size))
  clear hb c0 c1 c2
  obtain ⟨c0, c1, c2⟩ := HLB.out.below H11.out
  go_wp2_with fail
  refine (N3.out _ H11.out).mono ?_
  rintro e w12 ⟨rfl, hb⟩
  have H12 := Lib.hid (H11.out.trans (hb.mono H11.out.size))
  clear hb c0 c1 c2
  go_wp2_with fail
  have hbn := one_new w12 (.cells (ivs [1, 5]).toArray 3)
  refine (data_any (rdN_new w12 [1, 5] (by decide)) (by decide)).mono ?_
  rintro e w13 ⟨rfl, hb⟩
  have H13 := Lib.hid (HB2.out.trans ((H12.out.trans ((hbn.trans (hb.mono hbn.size)).mono H12.out.size)).mono HB2.out.size))
  have hd : str (dataB [1, 5]) = .string ⟨#[1, 5]⟩ := rfl
  rw [hd]
  clear hbn hb hd
  go_wp2
  go_ret
  exact ⟨rfl, H13.out⟩
end Go.Proofs.Ytopnmiakljpgbaa
