/-
  The walk of the law WalKeeps: for any script of calls it returns true; no older memory is changed.
-/
import Derived.Test.YtpiiknbjllgaoaaWKeep
import Derived.Test.YtpiiknbjllgaoaaLawAgain
import Derived.Deep.CutBlock
import Derived.Deep.AppendLies
namespace Go.Proofs.Ytpiiknbjllgaoaa
open Go.RowKit
/-- A call's copy, in a block beside such blocks. -/
structure OB (T : Nat → Prop) (w : World) (g : Nat) (o : OpK) : Prop where
  c0 : w.cell? ⟨g, 0, none⟩ = some (.int .i64 o.kind)
  c1 : w.cell? ⟨g, 1, none⟩ = some (.int .i64 o.num)
  c2 : w.cell? ⟨g, 2, none⟩ = some o.l
  c3 : w.cell? ⟨g, 3, none⟩ = some o.ps
  no : ¬ T g
section
variable {T T1 : Nat → Prop} {w w' : World} {g : Nat} {o : OpK}
theorem OB.lt (h : OB T w g o) : g < w.heap.size := w.block_lt_of_cell? _ h.c0
theorem OB.keeps (h : OB T w g o) (k : Keeps T T1 w w') : OB T1 w' g o :=
  ⟨(k.cell h.c0 h.no).1, (k.cell h.c1 h.no).1, (k.cell h.c2 h.no).1, (k.cell h.c3 h.no).1, (k.cell h.c0 h.no).2⟩
theorem OB.below (h : OB T w g o) (hb : Below w.heap.size w w') : OB T w' g o :=
  ⟨(hb.cell (p := ⟨g, 0, none⟩) h.lt).trans h.c0, (hb.cell (p := ⟨g, 1, none⟩) h.lt).trans h.c1, (hb.cell (p := ⟨g, 2, none⟩) h.lt).trans h.c2, (hb.cell (p := ⟨g, 3, none⟩) h.lt).trans h.c3, h.no⟩
theorem OB.sub (h : OB T w g o) (hT : ∀ k, T1 k → T k) : OB T1 w g o := ⟨h.c0, h.c1, h.c2, h.c3, fun h1 => h.no (hT g h1)⟩
end
/-- How it stands at a round's head. -/
def KH (w : World) (b k : Nat) (wl va fv : Value) (wr : World) : Prop :=
  ∃ x A F S B z, wl = ptr B ∧ LS w.heap.size S w b x B (ptr b) A.length F z wr ∧ LogOf x A F ∧ x.Okn (16 * (41 - k)) (1700 * (41 - k)) ∧ Lsq (wi S B) wr va A ∧ fv = .int .i64 (F : Int) ∧ z ≤ 1700 * k ∧ (rcsB A).length ≤ 1700 * k ∧ A.length ≤ 8 * k
set_option maxRecDepth 100000 in
set_option maxHeartbeats 51200000 in
theorem lawKeeps_some (ad : Option Addr) (n cap : Nat) (os : Nat → OpK) (w : World) (hok : ∀ k, k < n → (os k).ok w) (hc : ∀ k, k < n → ∃ b0 off, ad = some ⟨b0, off, none⟩ ∧ b0 < w.heap.size ∧ OpAt w b0 (off + k * 4) (os k)) :
    Calls Try.prog 4 #[.slice ad n cap] w fun e w' => e = .returned (.bool true) ∧ Below w.heap.size w w' := by
  have HC := Lib.hid hc
  have HOK := Lib.hid hok
  have HAW := Lib.hid (awake_any w)
  clear hc hok
  go_enter Try.func4, Try.ntmps4
  go_wp2_with fail
  refine HAW.out.mono ?_
  rintro e w1 ⟨rfl, hb1⟩
  have HB1 := Lib.hid hb1
  clear hb1 HAW
  go_wp2_with fail
  refine (new_any 100000 (by decide) w1).mono ?_
  rintro e w2 ⟨rfl, hp2, hb2⟩
  obtain ⟨S2, hn2, _⟩ := NA.new hp2 hb2 HB1.out HB1.out.size
  have hn2 : NA w.heap.size S2 w w1.heap.size Y0.dk w2 := hn2
  have HO := Lib.hid (open_log hn2.p (fun k hk => (hn2.hS k hk).2) (okn_of (by kernel_rfl)) rfl)
  have HN2 := Lib.hid hn2
  obtain ⟨b, hbb⟩ : ∃ b, b = w1.heap.size := ⟨_, rfl⟩
  rw [← hbb] at HN2 HO ⊢
  clear hp2 hb2 hn2 hbb HB1
  go_wp2_with fail
  refine HO.out.mono ?_
  rintro e w3 ⟨p, v, S3, rfl, hok⟩
  obtain ⟨B, rfl, _, hls, hlst⟩ := HN2.out.opened hok rfl
  have hls : LS w.heap.size S3 w b Y0 B (ptr b) 0 0 0 w3 := hls
  have HE3 : Hid (Y0.opE = 0) := Lib.hid rfl
  rw [HE3.out]
  obtain ⟨a, capl, rfl, _⟩ := hlst.rd
  have hl0 : (ab Y0.recs).length = 0 := rfl
  rw [hl0]
  have HK : Hid (KH w b 0 (ptr B) (.slice none 0 0) (.int .i64 ((0 : Nat) : Int)) w3) := Lib.hid ⟨Y0, [], 0, S3, B, 0, rfl, hls, y0_log, okn_of (by kernel_rfl), ⟨⟨none, 0, rfl, Nat.le_refl _, Nat.zero_le _, .inl rfl⟩, .inl rfl⟩, rfl, by omega, by simp [rcsB], by simp⟩
  clear hok hls hlst hl0 HO HN2 HE3
  go_wp2
  go_loopw [5, 8, 9, 10, 11, 12, 13, 14, 15, 16, 17, 18, 19, 20, 21, 22, 23, 24, 25, 26] (fun wl va fv i _ _ _ _ _ _ _ _ _ _ _ _ _ _ _ _ wr => ∃ k : Nat, k ≤ n ∧ k ≤ 40 ∧ i = .int .i64 (k : Int) ∧ KH w b k wl va fv wr) (fun _ _ _ i _ _ _ _ _ _ _ _ _ _ _ _ _ _ _ _ _ => n - (intOf i).toNat)
  case atStart => exact ⟨0, by omega, by omega, rfl, HK.out⟩
  case round =>
    as_aux_lemma =>
    clear HK
    obtain ⟨k, hk, hk2, rfl, x, A, F, S, C, z, rfl, hls, hlg, hokn, hlq, rfl, hz, hrA, hlA⟩ := hrel
    have HL := Lib.hid hls
    have HLG := Lib.hid hlg
    have HOKN := Lib.hid hokn
    have HQ := Lib.hid hlq
    have hbel := hls.na.bel
    clear hls hlg hokn hlq
    by_cases hlt : k < n ∧ k < 40
    · have q1 : (k : Int) < (n : Int) := by omega
      have q2 : (k : Int) < 40 := by omega
      obtain ⟨b0, off, had, hb, c0, c1, c2, c3⟩ := HC.out k hlt.1
      subst had
      have c0 := (hbel.cell (p := ⟨b0, off + k * 4, none⟩) hb).trans c0
      have c1 := (hbel.cell (p := ⟨b0, off + k * 4 + 1, none⟩) hb).trans c1
      have c2 := (hbel.cell (p := ⟨b0, off + k * 4 + 2, none⟩) hb).trans c2
      have c3 := (hbel.cell (p := ⟨b0, off + k * 4 + 3, none⟩) hb).trans c3
      obtain ⟨o, ho⟩ : ∃ o, o = os k := ⟨_, rfl⟩
      have hok := HOK.out k hlt.1
      rw [← ho] at c0 c1 c2 c3 hok
      obtain ⟨hi0, hi1, ⟨l0, hl0⟩, ps, hps⟩ := hok
      obtain ⟨⟨a1, a2⟩, b1, b2⟩ := And.intro hi0 hi1
      have HL0 := Lib.hid hl0
      have HPS := Lib.hid hps
      obtain ⟨aL, cL, hLe, _⟩ := hl0
      obtain ⟨_, _, aP, cP, hPe, _⟩ := hps
      have HOC : Hid (∀ wA, wA = wr.alloc (.cells #[.int .i64 o.kind, .int .i64 o.num, o.l, o.ps] 41) → OB (wi S C) wA wr.heap.size o ∧ Below wr.heap.size wr wA) := Lib.hid (fun wA hwA => by
        have hnew := World.news_of_block (cs := #[.int .i64 o.kind, .int .i64 o.num, o.l, o.ps]) (t := 41) (fr := (0, 0)) (heap_alloc_new wr _)
        subst hwA
        refine ⟨⟨hnew 0 _ rfl, hnew 1 _ rfl, hnew 2 _ rfl, hnew 3 _ rfl, ?_⟩, (Below.refl _ _).alloc (Nat.le_refl _) _⟩
        rintro (h | h)
        · have := HL.out.lt _ h; omega
        · have := HL.out.wb.lt; omega)
      obtain ⟨x0, hx0⟩ : ∃ x0, x0 = o.kind := ⟨_, rfl⟩
      obtain ⟨x1, hx1⟩ : ∃ x1, x1 = o.num := ⟨_, rfl⟩
      obtain ⟨vl, hvl⟩ : ∃ v, v = o.l := ⟨_, rfl⟩
      obtain ⟨vp, hvp⟩ : ∃ v, v = o.ps := ⟨_, rfl⟩
      rw [← hx0] at c0 a1 a2 HOC
      rw [← hx1] at c1 b1 b2 HOC
      rw [← hvl] at c2 HOC HL0 hLe
      rw [← hvp] at c3 HOC HPS hPe
      have HX0 := Lib.hid hx0
      have HX1 := Lib.hid hx1
      have HXP := Lib.hid hvp
      subst hLe
      subst hPe
      clear hx0 hx1 hvl hvp ho hi0 hi1 hbel
      go_wp2_with fail
      obtain ⟨wA, hwA⟩ : ∃ wA, wA = wr.alloc (.cells #[.int .i64 x0, .int .i64 x1, .slice aL l0.length cL, .slice aP ps.length cP] 41) := ⟨_, rfl⟩
      rw [← hwA]
      obtain ⟨hob, hbA⟩ := HOC.out wA hwA
      obtain ⟨og, hog⟩ : ∃ og, og = wr.heap.size := ⟨_, rfl⟩
      rw [← hog] at hob ⊢
      have LA := HL.out.mv hbA
      have HOB := Lib.hid hob
      have HQA := Lib.hid (HQ.out.below hbA)
      have HF := Lib.hid (few_any (HL0.out.below LA.na.bel))
      have HLA := Lib.hid LA
      clear hwA hob hbA hog LA HOC HL HQ c0 c1 c2 c3
      refine HF.out.mono ?_
      rintro e w4 ⟨uL, rfl, hrL, hoL, hb4⟩
      have hqL : Lsq (wi S C) w4 uL (few l0) := lsq_of hrL (fun j hj h => by
        have h1 := hoL j hj
        rcases h with h | h
        · have := HLA.out.lt j h; omega
        · have := HLA.out.wb.lt; omega)
      have HUL := Lib.hid hqL
      have HL4 := Lib.hid (HLA.out.mv hb4)
      have HOB4 := Lib.hid (HOB.out.below hb4)
      have HQ4 := Lib.hid (HQA.out.below hb4)
      obtain ⟨au, cu, rfl, _⟩ := hrL
      rw [ab_length] at HUL ⊢
      obtain ⟨L, hL⟩ : ∃ L, L = few l0 := ⟨_, rfl⟩
      have HFL : Hid (Fit L) := Lib.hid (by rw [hL]; exact few_fit l0)
      have hlL : L.length ≤ 8 := by rw [hL]; exact few_length l0
      have hrL2 : (rcsB L).length ≤ 1664 := by rw [hL]; exact few_all l0
      rw [← hL] at HUL ⊢
      have d0 := HOB4.out.c0
      have d1 := HOB4.out.c1
      rw [← HX0.out] at d0
      rw [← HX1.out] at d1
      clear hqL hoL hb4 HF HLA HOB HQA hL
      go_upto_region 13 with fail
      go_cut [71] from 41 to 216 (fun c wx => c = .bool (decide (0 ≤ x1 ∧ x1 ≤ 5 ∧ x0.tmod 3 = 0)) ∧ w4 = wx)
      case first =>
        as_aux_lemma =>
        by_cases g1 : 0 ≤ x1
        · by_cases g2 : x1 ≤ 5
          · by_cases g3 : x0.tmod 3 = 0
            · go_wp2_with fail
              go_meet
              exact ⟨congrArg Value.bool (by simp [g1, g2, g3]), rfl⟩
            · go_wp2_with fail
              go_meet
              exact ⟨congrArg Value.bool (by simp [g1, g2, g3]), rfl⟩
          · have g2' : decide (x1 ≤ 5) = false := by simpa using g2
            go_wp2_with fail
            go_meet
            exact ⟨congrArg Value.bool (decide_eq_false (fun h => by omega)).symm, rfl⟩
        · have g1' : decide (0 ≤ x1) = false := by simpa using g1
          go_wp2_with fail
          go_meet
          exact ⟨congrArg Value.bool (decide_eq_false (fun h => by omega)).symm, rfl⟩
      case rest =>
        as_aux_lemma =>
        obtain ⟨rfl, rfl⟩ := hcut
        go_upto_if 71 with fail
        go_cut [] from 41 to 216 (fun wx => ∃ y S', LS w.heap.size S' w b y C (ptr b) A.length F z wx ∧ LogOf y A F ∧ y.Okn (16 * (41 - k)) (1700 * (41 - k)) ∧ Keeps (wi S C) (wi S' C) w4 wx)
        case first =>
          as_aux_lemma =>
          by_cases g : 0 ≤ x1 ∧ x1 ≤ 5 ∧ x0.tmod 3 = 0
          · obtain ⟨N, rfl⟩ : ∃ N : Nat, x1 = (N : Int) := ⟨x1.toNat, by omega⟩
            have hN : N ≤ 5 := by omega
            have gd : decide (0 ≤ (N : Int) ∧ (N : Int) ≤ 5 ∧ x0.tmod 3 = 0) = true := decide_eq_true g
            rw [gd]
            have HARM := Lib.hid (arm_any N (by omega) HL4.out.na.p)
            go_wp2_with fail
            refine HARM.out.mono ?_
            rintro e w5 ⟨⟨u, rfl⟩, hp5, ht5⟩
            obtain ⟨S5, hn5, k5, _⟩ := HL4.out.na.one hp5 ht5
            have hn5 : NA w.heap.size S5 w b (x.arm N).dk w5 := hn5
            obtain ⟨h5, k6⟩ := HL4.out.disk (y := x.arm N) hn5 k5
            have H5 := Lib.hid h5
            have K5 := Lib.hid k6
            clear hp5 ht5 hn5 k5 h5 k6
            go_wp2_with fail
            go_meet
            exact ⟨x.arm N, S5, H5.out, HLG.out.same rfl, arm_okn HOKN.out (by unfold mostL; omega), K5.out⟩
          · have gd : decide (0 ≤ x1 ∧ x1 ≤ 5 ∧ x0.tmod 3 = 0) = false := decide_eq_false g
            rw [gd]
            go_wp2_with fail
            go_meet
            exact ⟨x, S, HL4.out, HLG.out, HOKN.out, Keeps.of_below (Below.refl _ _)⟩
        case rest =>
          as_aux_lemma =>
          clear d0 d1
          obtain ⟨y, S5, h5, hlg5, hokn5, k5⟩ := hcut
          have HUL5 := Lib.hid (HUL.out.keeps k5)
          have HOB5 := Lib.hid (HOB4.out.keeps k5)
          have HQ5 := Lib.hid (HQ4.out.keeps k5)
          have HL5 := Lib.hid h5
          have HLG5 := Lib.hid hlg5
          have HOKN5 := Lib.hid hokn5
          have d0 := HOB5.out.c0
          rw [← HX0.out] at d0
          clear h5 hlg5 hokn5 k5 HL4 HLG HOKN HUL HOB4 HQ4
          have hr0 : (x0.tmod 10).natAbs = x0.natAbs % 10 := Int.natAbs_tmod x0 10
          obtain ⟨r, hr⟩ : ∃ r, x0.tmod 10 = r := ⟨_, rfl⟩
          rw [hr] at hr0
          have hr1 : -10 < r := by omega
          have hr2 : r < 10 := by omega
          clear hr0
          go_upto_if 80 with fail
          clear hr d0
          go_cut [15] from 41 to 216 (fun kv wx => ∃ kk : Nat, kv = .int .i64 (kk : Int) ∧ kk < 10 ∧ wc = wx)
          case first =>
            as_aux_lemma =>
            by_cases g : r < 0
            · go_wp2_with fail
              go_meet
              exact ⟨(r + 10).toNat, by go_num, by omega, rfl⟩
            · have g' : decide (r < 0) = false := by simpa using g
              go_wp2_with fail
              go_meet
              exact ⟨r.toNat, by go_num, by omega, rfl⟩
          case rest =>
            as_aux_lemma =>
            obtain ⟨kk, rfl, hk10, rfl⟩ := hcut
            obtain ⟨aA, cA, hva, _⟩ := HQ5.out.1
            rw [ab_length] at hva
            subst hva
            go_upto_block 2 with fail
            go_cut [8, 9, 13, 14, 16] from 41 to 216 (fun va fv vn rv ev wx => ∃ (x1 : Ld) (A1 : List Bs) (F1 : Nat) (NX : List Bs) (S1 : Nat → Prop) (z1 : Nat) (E : Int) (rw : Bool), fv = .int .i64 (F1 : Int) ∧ rv = .bool rw ∧ ev = .int .i64 E ∧
              NA w.heap.size S1 w b x1.dk wx ∧ LogOf x1 A1 F1 ∧ x1.Okn (16 * (41 - k) - 4) (1700 * (41 - k) - 1700) ∧ Lsq S1 wx va A1 ∧ Lsq S1 wx vn NX ∧ NX.length ≤ 8 * k + 8 ∧ (rcsB A1).length ≤ 1700 * (k + 1) ∧ A1.length ≤ 8 * (k + 1) ∧
              Keeps (wi S5 C) S1 wc wx ∧ (E = 0 → LS w.heap.size S1 w b x1 C (ptr b) A1.length F1 z1 wx ∧ z1 ≤ 1700 * (k + 1) ∧ Lsq (wi S1 C) wx va A1))
            case first =>
              as_aux_lemma =>
              rcases (by omega : kk = 3 ∨ kk = 4 ∨ kk = 5 ∨ (kk ≠ 3 ∧ kk ≠ 4 ∧ kk ≠ 5)) with rfl | rfl | rfl | ⟨n3, n4, n5⟩
              · as_aux_lemma =>
                have hcall := sync_log HL5.out.na.p HL5.out.lt HL5.out.wb HL5.out.nb (HOKN5.out.less (n' := 1) (m' := 0) (by omega) (by omega)) (by omega)
                have hm := sync_log' HLG5.out (rfl : A.length = A.length)
                have hok6 : (syX y A.length F).Okn (16 * (41 - k) - 4) (1700 * (41 - k) - 1700) := syX_okn (HOKN5.out.less (by omega) (by omega))
                obtain ⟨E, hE⟩ : ∃ E, E = syE y A.length F := ⟨_, rfl⟩
                obtain ⟨y6, hy6⟩ : ∃ y6, y6 = syX y A.length F := ⟨_, rfl⟩
                rw [← hE, ← hy6] at hcall hm
                rw [← hy6] at hok6
                have HC := Lib.hid hcall
                have HM6 := Lib.hid hm
                have HOK6 := Lib.hid hok6
                clear hcall hm hok6 hE hy6
                go_wp2_with fail
                refine HC.out.mono ?_
                rintro e w6 ⟨rfl, hc⟩
                obtain ⟨S6, h6, k6⟩ := HL5.out.chg hc
                have K6 : Hid (Keeps (wi S5 C) S6 wc w6) := Lib.hid (fun g hg hs => ⟨fun h => (k6 g hg hs).1 (.inl h), (k6 g hg hs).2⟩)
                have Q6 := Lib.hid (HQ5.out.keeps k6)
                clear hc k6 HC
                by_cases g : E = 0
                · subst g
                  have h6' : LS w.heap.size S6 w b y6 C (ptr b) A.length A.length z w6 := h6
                  have H6 := Lib.hid h6'
                  clear h6 h6'
                  go_wp2_with fail
                  go_meet
                  exact ⟨y6, A, A.length, A, S6, z, 0, false, rfl, rfl, rfl, H6.out.na, HM6.out.1 (by simp), HOK6.out, Q6.out.sub (fun _ => .inl), Q6.out.sub (fun _ => .inl), by omega, by omega, by omega, K6.out, fun _ => ⟨H6.out, by omega, Q6.out⟩⟩
                · have H6 := Lib.hid h6.na
                  have g' : decide (E = 0) = false := decide_eq_false g
                  clear h6
                  go_wp2_with fail
                  go_meet
                  exact ⟨y6, A, F, A, S6, 0, E, false, rfl, rfl, rfl, H6.out, HLG5.out.same (HM6.out.2 g), HOK6.out, Q6.out.sub (fun _ => .inl), Q6.out.sub (fun _ => .inl), by omega, by omega, by omega, K6.out, fun h => absurd h g⟩
              · as_aux_lemma =>
                have hcall := sync_log HL5.out.na.p HL5.out.lt HL5.out.wb HL5.out.nb (HOKN5.out.less (n' := 1) (m' := 0) (by omega) (by omega)) (by omega)
                have hm := sync_log' HLG5.out (rfl : A.length = A.length)
                have hok6 : (syX y A.length F).Okn (16 * (41 - k) - 4) (1700 * (41 - k) - 1700) := syX_okn (HOKN5.out.less (by omega) (by omega))
                obtain ⟨E, hE⟩ : ∃ E, E = syE y A.length F := ⟨_, rfl⟩
                obtain ⟨y6, hy6⟩ : ∃ y6, y6 = syX y A.length F := ⟨_, rfl⟩
                rw [← hE, ← hy6] at hcall hm
                rw [← hy6] at hok6
                have HC := Lib.hid hcall
                have HM6 := Lib.hid hm
                have HOK6 := Lib.hid hok6
                clear hcall hm hok6 hE hy6
                go_wp2_with fail
                refine HC.out.mono ?_
                rintro e w6 ⟨rfl, hc⟩
                obtain ⟨S6, h6, k6⟩ := HL5.out.chg hc
                have K6 : Hid (Keeps (wi S5 C) S6 wc w6) := Lib.hid (fun g hg hs => ⟨fun h => (k6 g hg hs).1 (.inl h), (k6 g hg hs).2⟩)
                have Q6 := Lib.hid (HQ5.out.keeps k6)
                clear hc k6 HC
                by_cases g : E = 0
                · subst g
                  have h6' : LS w.heap.size S6 w b y6 C (ptr b) A.length A.length z w6 := h6
                  have H6 := Lib.hid h6'
                  clear h6 h6'
                  go_wp2_with fail
                  go_meet
                  exact ⟨y6, A, A.length, A, S6, z, 0, false, rfl, rfl, rfl, H6.out.na, HM6.out.1 (by simp), HOK6.out, Q6.out.sub (fun _ => .inl), Q6.out.sub (fun _ => .inl), by omega, by omega, by omega, K6.out, fun _ => ⟨H6.out, by omega, Q6.out⟩⟩
                · have H6 := Lib.hid h6.na
                  have g' : decide (E = 0) = false := decide_eq_false g
                  clear h6
                  go_wp2_with fail
                  go_meet
                  exact ⟨y6, A, F, A, S6, 0, E, false, rfl, rfl, rfl, H6.out, HLG5.out.same (HM6.out.2 g), HOK6.out, Q6.out.sub (fun _ => .inl), Q6.out.sub (fun _ => .inl), by omega, by omega, by omega, K6.out, fun h => absurd h g⟩
              · as_aux_lemma =>
                have hcall := rewrite_log (L := L) HL5.out.na.p HL5.out.lt HL5.out.wb HL5.out.nb (HOKN5.out.less (n' := 4) (m' := (rcsB L).length) (by omega) (by omega)) HUL5.out.1 HFL.out (by omega) (by omega)
                have hm := rewrite_log' HLG5.out HFL.out
                have hok6 : (rwX y (rcsB L)).Okn (16 * (41 - k) - 4) (1700 * (41 - k) - 1700) := rwX_okn (HOKN5.out.less (by omega) (by omega))
                obtain ⟨E, hE⟩ : ∃ E, E = rwE y (rcsB L) := ⟨_, rfl⟩
                obtain ⟨y6, hy6⟩ : ∃ y6, y6 = rwX y (rcsB L) := ⟨_, rfl⟩
                rw [← hE, ← hy6] at hcall hm
                rw [← hy6] at hok6
                have HC := Lib.hid hcall
                have HM6 := Lib.hid hm
                have HOK6 := Lib.hid hok6
                clear hcall hm hok6 hE hy6
                go_wp2_with fail
                refine HC.out.mono ?_
                rintro e w6 ⟨rfl, hc⟩
                obtain ⟨S6, h6, k6⟩ := HL5.out.chg hc
                have K6 : Hid (Keeps (wi S5 C) S6 wc w6) := Lib.hid (fun g hg hs => ⟨fun h => (k6 g hg hs).1 (.inl h), (k6 g hg hs).2⟩)
                have Q6 := Lib.hid (HQ5.out.keeps k6)
                have U6 := Lib.hid (HUL5.out.keeps k6)
                clear hc k6 HC
                by_cases g : E = 0
                · subst g
                  have h6' : LS w.heap.size S6 w b y6 C (ptr b) L.length L.length (rcsB L).length w6 := h6
                  have H6 := Lib.hid h6'
                  clear h6 h6'
                  go_wp2_with fail
                  go_meet
                  exact ⟨y6, L, L.length, L, S6, (rcsB L).length, 0, true, rfl, rfl, rfl, H6.out.na, HM6.out.1 (by simp), HOK6.out, U6.out.sub (fun _ => .inl), U6.out.sub (fun _ => .inl), by omega, by omega, by omega, K6.out, fun _ => ⟨H6.out, by omega, U6.out⟩⟩
                · have H6 := Lib.hid h6.na
                  have g' : decide (E = 0) = false := decide_eq_false g
                  clear h6
                  go_wp2_with fail
                  go_meet
                  exact ⟨y6, A, F, L, S6, 0, E, true, rfl, rfl, rfl, H6.out, HLG5.out.same (HM6.out.2 g), HOK6.out, Q6.out.sub (fun _ => .inl), U6.out.sub (fun _ => .inl), by omega, by omega, by omega, K6.out, fun h => absurd h g⟩
              · as_aux_lemma =>
                have q3 : ((kk : Int) == 3) = false := by simp; omega
                have q4 : ((kk : Int) == 4) = false := by simp; omega
                have q5 : ((kk : Int) == 5) = false := by simp; omega
                have q3' : decide ((kk : Int) = 3) = false := by simp; omega
                have q4' : decide ((kk : Int) = 4) = false := by simp; omega
                have q5' : decide ((kk : Int) = 5) = false := by simp; omega
                go_wp2_with (at_builtin; refine wp_append_txt rfl (.tmp 84) (.tmp 85) rfl wc.heap.size _ [] A rfl (ownT_nil _ _) _ rfl HQ5.out.1 (by simp; omega) (Nat.le_refl _) ?_)
                intro v1 w6 ho6 hb6
                have HO6 := Lib.hid ho6
                have HB6 := Lib.hid hb6
                have HU6 := Lib.hid (HUL5.out.below hb6)
                obtain ⟨a1, c1, rfl, _⟩ := ho6.rd.1
                rw [ab_length] at HO6 ⊢
                clear ho6 hb6
                go_wp2_with (at_builtin; refine wp_append_txt rfl (.tmp 87) (.tmp 88) rfl wc.heap.size _ A L rfl HO6.out _ rfl HU6.out.1 (by omega) HB6.out.size ?_)
                intro v2 w7 ho7 hb7
                have HB7 := Lib.hid (HB6.out.trans hb7)
                have HO7 := Lib.hid ho7
                obtain ⟨a2, c2, rfl, _⟩ := ho7.rd.1
                rw [ab_length] at HO7 ⊢
                clear ho7 hb7
                have HL7 := Lib.hid (HL5.out.mv HB7.out)
                have HQ7 := Lib.hid (HQ5.out.below HB7.out)
                have HU7 := Lib.hid (HUL5.out.below HB7.out)
                have HN7 : Hid (Lsq (wi S5 C) w7 (.slice a2 (A ++ L).length c2) (A ++ L)) := Lib.hid (lsq_of HO7.out.rd.1 (fun j hj h => by
                  have h1 := HO7.out.rd.2 j hj
                  rcases h with h | h
                  · have := HL5.out.lt j h; omega
                  · have := HL5.out.wb.lt; omega))
                have K7 : Hid (Keeps (wi S5 C) (wi S5 C) wc w7) := Lib.hid (Keeps.of_below HB7.out)
                have hcall := append_log (L := L) HL7.out.na.p HL7.out.lt HL7.out.wb HL7.out.nb (HOKN5.out.less (n' := 1) (m' := (rcsB L).length) (by omega) (by omega)) HU7.out.1 HFL.out (by omega) (by omega) (by omega) (by omega)
                have hm := app_log HLG5.out HFL.out
                have hok6 : (apX y L).Okn (16 * (41 - k) - 4) (1700 * (41 - k) - 1700) := apX_okn (HOKN5.out.less (by omega) (by omega))
                have hrr : (rcsB (A ++ L)).length = (rcsB A).length + (rcsB L).length := by rw [rcs_append, List.length_append]
                have hll : (A ++ L).length = A.length + L.length := List.length_append
                obtain ⟨E, hE⟩ : ∃ E, E = apE y L := ⟨_, rfl⟩
                obtain ⟨y6, hy6⟩ : ∃ y6, y6 = apX y L := ⟨_, rfl⟩
                obtain ⟨NX, hNX⟩ : ∃ NX, NX = A ++ L := ⟨_, rfl⟩
                rw [← hE, ← hy6] at hcall
                rw [← hE, ← hy6, ← hNX] at hm
                rw [← hy6] at hok6
                rw [← hNX] at hrr hll HN7
                rw [hll] at HN7
                have HC := Lib.hid hcall
                have HM6 := Lib.hid hm
                have HOK6 := Lib.hid hok6
                clear hcall hm hok6 hE hy6 HO6 HO7 HU6 HB6 hNX HQ5 HUL5
                go_wp2_with fail
                refine HC.out.mono ?_
                rintro e w8 ⟨rfl, hc⟩
                obtain ⟨S6, h6, k6⟩ := HL7.out.chg hc
                have hk6 := K7.out.trans k6
                have K6 : Hid (Keeps (wi S5 C) S6 wc w8) := Lib.hid (fun g hg hs => ⟨fun h => (hk6 g hg hs).1 (.inl h), (hk6 g hg hs).2⟩)
                have Q6 := Lib.hid (HQ7.out.keeps k6)
                have N6 := Lib.hid (HN7.out.keeps k6)
                clear hc k6 hk6 HC HQ7 HN7 HU7
                by_cases g : E = 0
                · subst g
                  have h6' : LS w.heap.size S6 w b y6 C (ptr b) (A.length + L.length) F (z + (rcsB L).length) w8 := h6
                  rw [← hll] at h6'
                  have H6 := Lib.hid h6'
                  clear h6 h6'
                  go_wp2_with fail
                  go_meet
                  exact ⟨y6, NX, F, NX, S6, z + (rcsB L).length, 0, false, rfl, rfl, rfl, H6.out.na, HM6.out.1 (by simp), HOK6.out, N6.out.sub (fun _ => .inl), N6.out.sub (fun _ => .inl), by omega, by omega, by omega, K6.out, fun _ => ⟨H6.out, by omega, N6.out⟩⟩
                · have H6 := Lib.hid h6.na
                  have g' : decide (E = 0) = false := decide_eq_false g
                  clear h6
                  go_wp2_with fail
                  go_meet
                  exact ⟨y6, A, F, NX, S6, 0, E, false, rfl, rfl, rfl, H6.out, HLG5.out.same (HM6.out.2 g), HOK6.out, Q6.out.sub (fun _ => .inl), N6.out.sub (fun _ => .inl), by omega, by omega, by omega, K6.out, fun h => absurd h g⟩
            case rest =>
              as_aux_lemma =>
              obtain ⟨x1', A1, F1, NX, S6, z1, E, rw', rfl, rfl, rfl, hna6, hlg6, hokn6, hqa6, hqn6, hln, hra, hla, k6, h6⟩ := hcut
              obtain ⟨aN, cN, hvn, _⟩ := hqn6.1
              rw [ab_length] at hvn
              subst hvn
              have HNA6 := Lib.hid hna6
              have HLG6 := Lib.hid hlg6
              have HOKN6 := Lib.hid hokn6
              have HQA6 := Lib.hid hqa6
              have HQN6 := Lib.hid hqn6
              have HK6 := Lib.hid k6
              have H6 := Lib.hid h6
              have HON := Lib.hid (on_any hna6.p)
              obtain ⟨of, hof⟩ : ∃ c, c = x1'.off := ⟨_, rfl⟩
              have e6 : x1'.dk.off = of := hof.symm
              rw [e6] at HON
              clear hna6 hlg6 hokn6 hqa6 hqn6 k6 h6 e6 hof
              go_upto_region 40 with fail
              go_cut [126] from 41 to 216 (fun c wx => c = .bool (decide (E = 0 ∧ of = false ∧ kk ≠ 6)) ∧ wc = wx)
              case first =>
                as_aux_lemma =>
                by_cases g1 : E = 0
                · subst g1
                  by_cases g2 : of = false
                  · subst g2
                    go_wp2_with fail
                    refine HON.out.mono ?_
                    rintro e w7 ⟨rfl, rfl⟩
                    by_cases g3 : kk = 6
                    · subst g3
                      go_wp2_with fail
                      go_meet
                      exact ⟨rfl, rfl⟩
                    · have g3' : ((kk : Int) != 6) = true := by simp; omega
                      have g3'' : ((kk : Int) == 6) = false := by simp; omega
                      go_wp2_with fail
                      go_meet
                      exact ⟨congrArg Value.bool (by simp; omega), rfl⟩
                  · have g2' : of = true := by simpa using g2
                    subst g2'
                    go_wp2_with fail
                    refine HON.out.mono ?_
                    rintro e w7 ⟨rfl, rfl⟩
                    go_wp2_with fail
                    go_meet
                    exact ⟨rfl, rfl⟩
                · have g' : decide (E = 0) = false := decide_eq_false g1
                  go_wp2_with fail
                  go_meet
                  exact ⟨congrArg Value.bool (by simp [g1]), rfl⟩
              case rest =>
                as_aux_lemma =>
                obtain ⟨rfl, rfl⟩ := hcut
                by_cases g : E = 0 ∧ of = false ∧ kk ≠ 6
                · rw [decide_eq_true g]
                  have h6 := H6.out g.1
                  clear HON
                  go_wp2
                  go_roundw
                  case rel => exact ⟨k + 1, by omega, by omega, by go_num, x1', A1, F1, S6, C, z1, rfl, h6.1, HLG6.out, HOKN6.out.less (by omega) (by omega), h6.2.2, rfl, h6.2.1, hra, hla⟩
                  case measure => simp [intOf]; omega
                · rw [decide_eq_false g]
                  have HOB6 := Lib.hid (HOB5.out.keeps HK6.out)
                  clear HON H6 HK6 HOB5 HL5 HLG5 HOKN5 HQ5 HUL5 HFL
                  go_wp2_with fail
                  go_loopw [5, 8, 9, 17, 18, 19, 20, 21, 22] (fun _ va fv tv _ _ _ _ _ wr => ∃ (t : Nat) (y : Ld) (AA : List Bs) (f : Nat) (S1 : Nat → Prop), t ≤ 3 ∧ tv = .int .i64 (t : Int) ∧ fv = .int .i64 (f : Int) ∧ NA w.heap.size S1 w b y.dk wr ∧ Pre y AA f ∧
                    y.Okn (16 * (41 - k) - 4 - 3 * t) (1700 * (41 - k) - 1700) ∧ Lsq S1 wr va AA ∧ Lsq S1 wr (.slice aN NX.length cN) NX ∧ OB S1 wr og o ∧ (rcsB AA).length ≤ 1700 * (k + 1) ∧ AA.length ≤ 8 * (k + 1) ∧ (t = 3 → Dur y AA ∧ f = AA.length)) (fun _ _ _ tv _ _ _ _ _ _ => 3 - (intOf tv).toNat)
                  case atStart => exact ⟨0, x1', A1, F1, S6, by omega, rfl, rfl, HNA6.out, HLG6.out.pre, HOKN6.out.less (by omega) (Nat.le_refl _), HQA6.out, HQN6.out, HOB6.out, hra, hla, fun h => by omega⟩
                  case round =>
                    as_aux_lemma =>
                    clear HNA6 HLG6 HOKN6 HQA6 HQN6 HOB6
                    obtain ⟨t, y, AA, f, S7, ht, rfl, rfl, hna, hpre, hokn, hqa, hqn, hob, hra7, hla7, hlast⟩ := hrel
                    have HNA7 := Lib.hid hna
                    have HPRE7 := Lib.hid hpre
                    have HOKN7 := Lib.hid hokn
                    have HQA7 := Lib.hid hqa
                    have HQN7 := Lib.hid hqn
                    have HOB7 := Lib.hid hob
                    have HLAST := Lib.hid hlast
                    by_cases hlt : t < 3
                    · have q : (t : Int) < 3 := by omega
                      have d3 := hob.c3
                      rw [← HXP.out] at d3
                      have HCR := Lib.hid (hna.crash (by have := hokn.us; omega) (rdi_below HPS.out hna.bel) (fun g hg hs => by have := (hna.hS g hs).1; omega))
                      clear hna hpre hokn hqa hqn hob hlast HLAST
                      go_wp2_with fail
                      refine HCR.out.mono ?_
                      rintro e w8 ⟨⟨u, rfl⟩, S8, p, q', h8, k8, _⟩
                      obtain ⟨W, hW1, hW2, hd8⟩ := HPRE7.out p q'
                      have ho8 := crash_okn HOKN7.out p q'
                      have hof8 : (y.crash p q').off = false := rfl
                      have hsc8 : (y.crash p q').sch = false := rfl
                      obtain ⟨y8, hy8⟩ : ∃ y8, y8 = y.crash p q' := ⟨_, rfl⟩
                      rw [← hy8] at h8 hd8 ho8 hof8 hsc8
                      have HNA8 := Lib.hid h8
                      have HD8 := Lib.hid hd8
                      have HOKN8 := Lib.hid ho8
                      have HQA8 := Lib.hid (HQA7.out.keeps k8)
                      have HQN8 := Lib.hid (HQN7.out.keeps k8)
                      have HOB8 := Lib.hid (HOB7.out.keeps k8)
                      have HOF8 := Lib.hid hof8
                      have HSC8 := Lib.hid hsc8
                      have d3 := HOB8.out.c3
                      rw [← HXP.out] at d3
                      clear h8 hd8 ho8 hof8 hsc8 hy8 k8 HCR HNA7 HPRE7 HOKN7 HQA7 HQN7 HOB7
                      go_upto_region 45 with fail
                      go_cut [142] from 127 to 185 (fun c wx => c = .bool (decide (t < 2 ∧ 2 < ps.length)) ∧ w8 = wx)
                      case first =>
                        as_aux_lemma =>
                        by_cases g1 : t < 2
                        · have g1' : (t : Int) < 2 := by omega
                          by_cases g2 : 2 < ps.length
                          · have g2' : (2 : Int) < (ps.length : Int) := by omega
                            go_wp2_with fail
                            go_meet
                            exact ⟨congrArg Value.bool (by simp; omega), rfl⟩
                          · have g2' : decide ((2 : Int) < (ps.length : Int)) = false := by simp; omega
                            go_wp2_with fail
                            go_meet
                            exact ⟨congrArg Value.bool (by simp; omega), rfl⟩
                        · have g1' : decide ((t : Int) < 2) = false := by simp; omega
                          go_wp2_with fail
                          go_meet
                          exact ⟨congrArg Value.bool (by simp; omega), rfl⟩
                      case rest =>
                        as_aux_lemma =>
                        obtain ⟨rfl, rfl⟩ := hcut
                        clear d3
                        go_upto_if 142 with fail
                        go_cut [] from 127 to 185 (fun wx => ∃ y2 S9, NA w.heap.size S9 w b y2.dk wx ∧ Dur y2 (AA.take W) ∧ y2.Okn (16 * (41 - k) - 4 - 3 * t) (1700 * (41 - k) - 1700) ∧ y2.off = false ∧ (t = 2 → y2.sch = false) ∧ Keeps S8 S9 w8 wx)
                        case first =>
                          as_aux_lemma =>
                          by_cases ga : t < 2 ∧ 2 < ps.length
                          · rw [decide_eq_true ga]
                            have HARM := Lib.hid (arm_any t (by omega) HNA8.out.p)
                            go_wp2_with fail
                            refine HARM.out.mono ?_
                            rintro e w9 ⟨⟨u, rfl⟩, hp9, ht9⟩
                            obtain ⟨S9, hn9, k9, _⟩ := HNA8.out.one hp9 ht9
                            have hn9 : NA w.heap.size S9 w b (y8.arm t).dk w9 := hn9
                            have H9 := Lib.hid hn9
                            have K9 := Lib.hid k9
                            clear hp9 ht9 hn9 k9
                            go_wp2_with fail
                            go_meet
                            exact ⟨y8.arm t, S9, H9.out, HD8.out.arm t, arm_okn HOKN8.out (by unfold mostL; omega), HOF8.out, fun h => by omega, K9.out⟩
                          · rw [decide_eq_false ga]
                            go_wp2_with fail
                            go_meet
                            exact ⟨y8, S8, HNA8.out, HD8.out, HOKN8.out, HOF8.out, fun _ => HSC8.out, Keeps.of_below (Below.refl _ _)⟩
                        case rest =>
                          as_aux_lemma =>
                          obtain ⟨y2, S9, hn9, hd9, ho9, hof9, hsc9, k9⟩ := hcut
                          have HNA9 := Lib.hid hn9
                          have HD9 := Lib.hid hd9
                          have HOKN9 := Lib.hid ho9
                          have HSC9 : Hid (y2.opE ≠ 0 → t ≠ 2) := Lib.hid (fun h e => h (calm_open hof9 (hsc9 e)))
                          have HQA9 := Lib.hid (HQA8.out.keeps k9)
                          have HQN9 := Lib.hid (HQN8.out.keeps k9)
                          have HOB9 := Lib.hid (HOB8.out.keeps k9)
                          have HO9 := Lib.hid (open_log hn9.p (fun k hk => (hn9.hS k hk).2) (ho9.less (by omega) (by omega)) hof9)
                          clear hn9 hd9 ho9 hof9 hsc9 k9 HNA8 HD8 HOKN8 HQA8 HQN8 HOB8 HOF8 HSC8
                          go_wp2_with fail
                          refine HO9.out.mono ?_
                          rintro e w10 ⟨pp, v, S10, rfl, hok⟩
                          obtain ⟨hn10, k10⟩ := HNA9.out.open_ hok
                          obtain ⟨hd10, _⟩ := open_dur HD9.out
                          have ho10 : y2.opX.Okn (16 * (41 - k) - 4 - 3 * (t + 1)) (1700 * (41 - k) - 1700) := opX_okn (HOKN9.out.less (by omega) (Nat.le_refl _))
                          by_cases hE : y2.opE = 0
                          · obtain ⟨B2, rfl, hB2, hls, hlst⟩ := HNA9.out.opened hok hE
                            rw [HD9.out.recs] at hlst
                            rw [hE]
                            obtain ⟨M, hM⟩ : ∃ M, M = AA.take W := ⟨_, rfl⟩
                            have hpf : pfx (ab M) (ab AA) f = true := by rw [hM]; exact pfx_take AA hW1 hW2
                            have hMl : M.length ≤ 8 * (k + 1) := by rw [hM, List.length_take]; omega
                            have hMr : (rcsB M).length ≤ 1700 * (k + 1) := by
                              have e : rcsB AA = rcsB (AA.take W) ++ rcsB (AA.drop W) := by rw [← rcs_append, List.take_append_drop]
                              have := congrArg List.length e
                              rw [List.length_append, ← hM] at this
                              omega
                            rw [← hM] at hlst hd10
                            obtain ⟨y10, hy10⟩ : ∃ y, y = y2.opX := ⟨_, rfl⟩
                            rw [← hy10] at hn10 hd10 ho10
                            have hqm : Lsq S10 w10 v M := (hlst.sub (T1 := S10) fun _ => .inl).q
                            have HNA10 := Lib.hid hn10
                            have HD10 := Lib.hid hd10
                            have HOKN10 := Lib.hid ho10
                            have HQN10 := Lib.hid (HQN9.out.keeps k10)
                            have HOB10 := Lib.hid (HOB9.out.keeps k10)
                            have HQM10 := Lib.hid hqm
                            have HPF := Lib.hid (prefix_any hqm.1 (HQA9.out.keeps k10).1 (by rw [ab_length]; omega) f)
                            rw [hpf] at HPF
                            obtain ⟨aM, cM, rfl, _⟩ := hqm.1
                            rw [ab_length] at HQM10 HPF ⊢
                            obtain ⟨m, hm⟩ : ∃ m, m = M.length := ⟨_, rfl⟩
                            rw [← hm] at HQM10 HPF ⊢
                            have HM := Lib.hid hm
                            clear hok hls hlst hn10 hd10 ho10 k10 hqm hpf hM hE hm hy10 HNA9 HD9 HOKN9 HSC9 HQA9 HQN9 HOB9 HO9
                            go_wp2_with fail
                            refine HPF.out.mono ?_
                            rintro e w11 ⟨rfl, hb11⟩
                            have HB11 := Lib.hid hb11
                            have HP2 := Lib.hid (prefix_any (HQM10.out.1.below hb11) (HQN10.out.1.below hb11) (by rw [ab_length]; omega) f)
                            have HS2 := Lib.hid (same_any (HQM10.out.1.below hb11) (HQN10.out.1.below hb11) (by rw [ab_length]; omega))
                            clear hb11 HPF
                            go_upto_region 51 with fail
                            go_cut [22] from 127 to 185 (fun c wx => (∃ q, c = .bool q) ∧ Below w10.heap.size w10 wx)
                            case first =>
                              as_aux_lemma =>
                              cases rw' with
                              | false =>
                                go_wp2_with fail
                                refine HP2.out.mono ?_
                                rintro e w12 ⟨rfl, hb12⟩
                                have HB12 := Lib.hid (HB11.out.trans (hb12.mono HB11.out.size))
                                clear hb12
                                generalize pfx (ab M) (ab NX) f = qq
                                cases qq <;> (go_wp2_with fail; go_meet; exact ⟨⟨_, rfl⟩, HB12.out⟩)
                              | true =>
                                go_wp2_with fail
                                refine HS2.out.mono ?_
                                rintro e w12 ⟨rfl, hb12⟩
                                have HB12 := Lib.hid (HB11.out.trans (hb12.mono HB11.out.size))
                                clear hb12
                                generalize decide (ab M = ab NX) = qq
                                cases qq <;> (go_wp2_with fail; go_meet; exact ⟨⟨_, rfl⟩, HB12.out⟩)
                            case rest =>
                              as_aux_lemma =>
                              obtain ⟨⟨qc, rfl⟩, hb12⟩ := hcut
                              have hn12 := HNA10.out.mv hb12
                              have HQM12 := Lib.hid (HQM10.out.below hb12)
                              have HQN12 := Lib.hid (HQN10.out.below hb12)
                              have HOB12 := Lib.hid (HOB10.out.below hb12)
                              have HCR := Lib.hid (hn12.crash (by have := HOKN10.out.us; omega) (ps := []) (v := .slice none 0 0) (U := fun _ => False) ⟨(fun _ h => nomatch h), Nat.zero_le _, none, 0, rfl, Nat.le_refl _, Nat.zero_le _, .inl rfl⟩ (fun _ h => h.elim))
                              clear hb12 hn12 HP2 HS2 HB11 HNA10 HQM10 HQN10 HOB10
                              go_wp2_with fail
                              refine HCR.out.mono ?_
                              rintro e w13 ⟨⟨u, rfl⟩, S13, p2, q2, h13, k13, _⟩
                              have H13 := Lib.hid h13
                              have K13 := Lib.hid k13
                              have hd13 := HD10.out.crash p2 q2
                              have HP13 : Hid (Pre (y10.crash p2 q2) M m) := Lib.hid (Dur.pre (W := m) (by rw [HM.out, List.take_length]; exact hd13) (Nat.le_refl _) (by rw [HM.out]; exact Nat.le_refl _))
                              have HD13 := Lib.hid hd13
                              have HO13 := Lib.hid (crash_okn HOKN10.out p2 q2)
                              clear h13 k13 hd13 HCR
                              go_wp2
                              go_roundw
                              case rel => exact ⟨t + 1, y10.crash p2 q2, M, m, S13, by omega, by go_num, rfl, H13.out, HP13.out, HO13.out, HQM12.out.keeps K13.out, HQN12.out.keeps K13.out, HOB12.out.keeps K13.out, hMr, hMl, fun _ => ⟨HD13.out, HM.out⟩⟩
                              case measure => simp [intOf]; omega
                          · obtain ⟨E, hEe⟩ : ∃ E, E = y2.opE := ⟨_, rfl⟩
                            have ht2 := HSC9.out hE
                            rw [← hEe] at hE ⊢
                            obtain ⟨rfl, rfl⟩ := hok.no (by rw [← hEe]; exact hE)
                            have g' : (E != 0) = true := by simpa using hE
                            have g'' : (E == 0) = false := by simpa using hE
                            have HN10 := Lib.hid hn10
                            have HP10 : Hid (Pre y2.opX AA f) := Lib.hid (hd10.pre hW1 hW2)
                            have HO10 := Lib.hid ho10
                            have K10 := Lib.hid k10
                            clear hn10 hd10 ho10 k10 hok hEe
                            go_wp2
                            go_roundw
                            case rel => exact ⟨t + 1, y2.opX, AA, f, S10, by omega, by go_num, rfl, HN10.out, HP10.out, HO10.out, HQA9.out.keeps K10.out, HQN9.out.keeps K10.out, HOB9.out.keeps K10.out, hra7, hla7, fun h => by omega⟩
                            case measure => simp [intOf]; omega
                    · have ht3 : t = 3 := by omega
                      have q : decide ((t : Int) < 3) = false := by simp; omega
                      obtain ⟨hd, hf⟩ := HLAST.out ht3
                      have HD7 := Lib.hid hd
                      subst ht3
                      have HCR := Lib.hid (hna.crash (by have := hokn.us; omega) (ps := []) (v := .slice none 0 0) (U := fun _ => False) ⟨(fun _ h => nomatch h), Nat.zero_le _, none, 0, rfl, Nat.le_refl _, Nat.zero_le _, .inl rfl⟩ (fun _ h => h.elim))
                      clear hna hpre hokn hqa hqn hob hlast HLAST hd hf HPRE7 HQN7 HOB7
                      go_wp2_with fail
                      refine HCR.out.mono ?_
                      rintro e w8 ⟨⟨u, rfl⟩, S8, p, q', h8, k8, _⟩
                      have hd8 := HD7.out.crash p q'
                      have ho8 := crash_okn HOKN7.out p q'
                      have he8 : (y.crash p q').opE = 0 := calm_open rfl rfl
                      have hof8 : (y.crash p q').off = false := rfl
                      obtain ⟨y8, hy8⟩ : ∃ y8, y8 = y.crash p q' := ⟨_, rfl⟩
                      rw [← hy8] at h8 hd8 ho8 he8 hof8
                      have HNA8 := Lib.hid h8
                      have HD8 := Lib.hid hd8
                      have HOKN8 := Lib.hid (opX_okn (x := y8) (n := 16 * (41 - (k + 1))) (m := 1700 * (41 - (k + 1))) (ho8.less (by omega) (by omega)))
                      have HQA8 := Lib.hid (HQA7.out.keeps k8)
                      have HE8 := Lib.hid he8
                      have HO8 := Lib.hid (open_log h8.p (fun k hk => (h8.hS k hk).2) (ho8.less (by omega) (by omega)) hof8)
                      clear h8 hd8 ho8 he8 hof8 hy8 k8 HCR HNA7 HD7 HOKN7 HQA7
                      go_wp2_with fail
                      refine HO8.out.mono ?_
                      rintro e w9 ⟨pp, v, S9, rfl, hok⟩
                      obtain ⟨B2, rfl, hB2, hls, hlst⟩ := HNA8.out.opened hok HE8.out
                      have k9 := (HNA8.out.open_ hok).2
                      have hlg := (open_dur HD8.out).2 HE8.out
                      have hgd : y8.good = (rcsB AA).length := by unfold Ld.good; rw [HD8.out.recs]
                      rw [HD8.out.recs] at hls hlst
                      rw [hgd] at hls
                      rw [HE8.out]
                      have HSAME := Lib.hid (same_any hlst.rd (HQA8.out.keeps k9).1 (by rw [ab_length]; omega))
                      rw [show decide (ab AA = ab AA) = true from decide_eq_true rfl] at HSAME
                      have HLS := Lib.hid hls
                      have HLG9 := Lib.hid hlg
                      have HQ9 := Lib.hid hlst.q
                      obtain ⟨aM, cM, rfl, _⟩ := hlst.rd
                      obtain ⟨aA, cA, hva, _⟩ := HQA8.out.1
                      subst hva
                      rw [ab_length] at HSAME HQ9 ⊢
                      obtain ⟨m, hm⟩ : ∃ m, m = AA.length := ⟨_, rfl⟩
                      rw [ab_length] at HQA8
                      rw [← hm] at HSAME HQ9 HLS HLG9 HQA8 hla7 ⊢
                      have HMM := Lib.hid hm
                      clear hok hls hlst k9 hlg hgd hm HO8 HE8 HNA8 HD8
                      go_wp2_with fail
                      refine HSAME.out.mono ?_
                      rintro e w10 ⟨rfl, hb10⟩
                      have HB10 := Lib.hid hb10
                      clear hb10 HSAME
                      go_wp2
                      go_roundw
                      case rel => exact ⟨k + 1, by omega, by omega, by go_num, y8.opX, AA, m, S9, B2, (rcsB AA).length, rfl, by rw [← HMM.out]; exact HLS.out.mv HB10.out, HLG9.out, HOKN8.out, HQ9.out.below HB10.out, rfl, hra7, hra7, by rw [← HMM.out]; exact hla7⟩
                      case measure => simp [intOf]; omega
    · by_cases hl1 : k < n
      · have q1 : (k : Int) < (n : Int) := by omega
        have q2 : decide ((k : Int) < 40) = false := by simp; omega
        go_wp2
        go_ret
        exact ⟨rfl, hbel⟩
      · have q1 : decide ((k : Int) < (n : Int)) = false := by simp; omega
        have q3 : decide (k < n) = false := by simp; omega
        go_wp2
        go_ret
        exact ⟨rfl, hbel⟩
theorem lawKeeps_any (ad : Option Addr) (n cap : Nat) (w : World) (h : Calld w ad n) :
    Calls Try.prog 4 #[.slice ad n cap] w fun e w' => e = .returned (.bool true) ∧ Below w.heap.size w w' := by
  rcases h with rfl | ⟨b, off, os, rfl, hb, h1, h2⟩
  · exact lawKeeps_some ad 0 cap (fun _ => ⟨0, 0, .slice none 0 0, .slice none 0 0⟩) w (fun k hk => by omega) (fun k hk => by omega)
  · exact lawKeeps_some _ n cap os w h1 (fun k hk => ⟨b, off, rfl, hb, h2 k hk⟩)
end Go.Proofs.Ytpiiknbjllgaoaa
