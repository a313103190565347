/-
  The walk of the law WalAgain: for any texts and any crashes it returns true; no older memory is changed.
-/
import Derived.Test.YtpiiknbjllgaoaaWCalm
import Derived.Test.YtpiiknbjllgaoaaLawCuts
namespace Go.Proofs.Ytpiiknbjllgaoaa
open Go.RowKit
/-- A list of texts beside such blocks, or an empty one. -/
def Lsq (T : Nat → Prop) (w : World) (v : Value) (L : List Bs) : Prop := RdB w v L ∧ (L = [] ∨ Lst T w v L)
section
variable {T T1 : Nat → Prop} {w w' : World} {v : Value} {L : List Bs}
theorem rdb_nil (h : RdB w v []) : RdB w' v [] := by
  obtain ⟨a, cap, rfl, h1, h2, _⟩ := h
  exact ⟨a, cap, rfl, h1, h2, .inl rfl⟩
theorem lsq_of (h : RdB w v L) (hn : ∀ j, v.ownBlock = some j → ¬ T j) : Lsq T w v L := by
  refine ⟨h, ?_⟩
  by_cases h0 : L = []
  · exact .inl h0
  · refine .inr ⟨h, fun j hj => ⟨?_, hn j hj⟩⟩
    obtain ⟨a, cap, rfl, h1, h2, h3⟩ := h
    rcases h3 with h3 | ⟨g, o, rfl, hc⟩
    · refine absurd ?_ h0
      have := congrArg List.length h3
      rw [ab_length] at this
      exact List.eq_nil_of_length_eq_zero this
    · obtain ⟨s, r, rfl⟩ : ∃ s r, L = s :: r := by cases L with
        | nil => exact absurd rfl h0
        | cons s r => exact ⟨s, r, rfl⟩
      have h5 := w.block_lt_of_cell? _ (hc 0 _ rfl)
      have h6 : g = j := by simpa [Value.ownBlock] using hj
      rw [← h6]
      exact h5
theorem Lsq.keeps (h : Lsq T w v L) (k : Keeps T T1 w w') : Lsq T1 w' v L := by
  rcases h.2 with rfl | h2
  · exact ⟨rdb_nil h.1, .inl rfl⟩
  · exact ⟨(h2.keeps k).rd, .inr (h2.keeps k)⟩
theorem Lsq.below (h : Lsq T w v L) (hb : Below w.heap.size w w') : Lsq T w' v L := by
  rcases h.2 with rfl | h2
  · exact ⟨rdb_nil h.1, .inl rfl⟩
  · exact ⟨(h2.below hb).rd, .inr (h2.below hb)⟩
theorem Lsq.sub (h : Lsq T w v L) (hT : ∀ k, T1 k → T k) : Lsq T1 w v L := ⟨h.1, h.2.imp id fun h2 => h2.sub hT⟩
theorem Lst.q (h : Lst T w v L) : Lsq T w v L := ⟨h.rd, .inr h⟩
theorem Lsq.beside (h : Lsq T w v L) (k : Keeps T T1 w w') {C : Nat} (hC : w.heap.size ≤ C) : Lsq (wi T1 C) w' v L := by
  rcases h.2 with rfl | h2
  · exact ⟨rdb_nil h.1, .inl rfl⟩
  · refine ⟨(h2.keeps k).rd, .inr ⟨(h2.keeps k).rd, fun j hj => ⟨((h2.keeps k).ow j hj).1, ?_⟩⟩⟩
    rintro (h3 | h3)
    · exact ((h2.keeps k).ow j hj).2 h3
    · have := (h2.ow j hj).1; omega
end
def Y0 : Ld := ⟨none, none, 100000, 0, 0, false, false⟩
theorem y0_nic : Nic Y0 0 0 := ⟨rfl, rfl, rfl, rfl, Nat.zero_le _, Nat.le_refl _, Nat.le_refl _⟩
theorem y0_log : LogOf Y0 [] 0 := ⟨(fun _ h => nomatch h), Nat.le_refl _, .inr ⟨rfl, rfl⟩⟩
theorem rdi_below {n : Nat} {w w' : World} {v : Value} {ps : List Int} (h : RdI (fun g => g < n) w v ps) (hb : Below n w w') : RdI (fun g => g < n) w' v ps := by
  obtain ⟨h1, h2, a, cap, rfl, h3, h4, h5⟩ := h
  refine ⟨h1, h2, a, cap, rfl, h3, h4, h5.imp id ?_⟩
  rintro ⟨g, k, rfl, hg, hc⟩
  exact ⟨g, k, rfl, hg, fun i p hi => (hb.cell hg).trans (hc i p hi)⟩
set_option maxRecDepth 100000 in
set_option maxHeartbeats 25600000 in
theorem lawAgain_any (vx vy vp : Value) (w : World) (hx : ∃ l, RdS w vx l) (hy : ∃ l, RdS w vy l) (hp : ∃ ps, RdI (fun g => g < w.heap.size) w vp ps) : Calls Try.prog 8 #[vx, vy, vp] w fun e w' => e = .returned (.bool true) ∧ Below w.heap.size w w' := by
  obtain ⟨lx, hlx⟩ := hx
  obtain ⟨ly, hly⟩ := hy
  obtain ⟨ps, hps⟩ := hp
  have HX := Lib.hid hlx
  have HY := Lib.hid hly
  have HPS := Lib.hid hps
  have HAW := Lib.hid (awake_any w)
  obtain ⟨ax, nx, cx, rfl⟩ : ∃ a n cap, vx = .slice a n cap := by obtain ⟨a, cap, e, _⟩ := hlx; exact ⟨a, _, cap, e⟩
  obtain ⟨ay, ny, cy, rfl⟩ : ∃ a n cap, vy = .slice a n cap := by obtain ⟨a, cap, e, _⟩ := hly; exact ⟨a, _, cap, e⟩
  obtain ⟨ap, np, cp, rfl⟩ : ∃ a n cap, vp = .slice a n cap := by obtain ⟨_, _, a, cap, e, _⟩ := hps; exact ⟨a, _, cap, e⟩
  clear hlx hly hps
  go_enter Try.func8, Try.ntmps8
  go_wp2_with fail
  refine HAW.out.mono ?_
  rintro e w1 ⟨rfl, hb1⟩
  have HB1 := Lib.hid hb1
  clear hb1 HAW
  go_wp2_with fail
  refine (new_any 100000 (by decide) w1).mono ?_
  rintro e w2 ⟨rfl, hp2, hb2⟩
  obtain ⟨S2, hn2, _⟩ := NA.new hp2 hb2 HB1.out HB1.out.size
  have hn2 : NA w.heap.size S2 w w1.heap.size Y0.dk w2 := hn2
  have HO := Lib.hid (open_log hn2.p (fun k hk => (hn2.hS k hk).2) (okn_of (by kernel_rfl)) rfl)
  have HN2 := Lib.hid hn2
  obtain ⟨b, hb⟩ : ∃ b, b = w1.heap.size := ⟨_, rfl⟩
  rw [← hb] at HN2 HO ⊢
  clear hp2 hb2 hn2 hb HB1
  go_wp2_with fail
  refine HO.out.mono ?_
  rintro e w3 ⟨p, v, S3, rfl, hok⟩
  obtain ⟨B, rfl, _, hls, hlst⟩ := HN2.out.opened hok rfl
  have hls : LS w.heap.size S3 w b Y0 B (ptr b) 0 0 0 w3 := hls
  have HE3 : Hid (Y0.opE = 0) := Lib.hid rfl
  rw [HE3.out]
  obtain ⟨a, cap, rfl, _⟩ := hlst.rd
  have hl0 : (ab Y0.recs).length = 0 := rfl
  rw [hl0]
  have HL3 := Lib.hid hls
  have HF3 := Lib.hid (few_any (HX.out.below hls.na.bel))
  clear hok hls hlst hl0 HO HN2
  go_wp2_with fail
  refine HF3.out.mono ?_
  rintro e w4 ⟨uA, rfl, hrA, hoA, hb4⟩
  have hqA : Lsq (wi S3 B) w4 uA (few lx) := lsq_of hrA (fun j hj h => by
    have h1 := hoA j hj
    rcases h with h | h
    · have := HL3.out.lt j h; omega
    · have := HL3.out.wb.lt; omega)
  have HA4 := Lib.hid hqA
  have HL4 := Lib.hid (HL3.out.mv hb4)
  have HF4 := Lib.hid (few_any (HY.out.below (HL4.out.na.bel)))
  obtain ⟨aA, cA, rfl, _⟩ := hrA
  rw [ab_length] at HA4 ⊢
  clear hqA hoA hb4 HF3 HL3
  go_wp2_with fail
  refine HF4.out.mono ?_
  rintro e w5 ⟨uB, rfl, hrB, hoB, hb5⟩
  have hqB : Lsq (wi S3 B) w5 uB (few ly) := lsq_of hrB (fun j hj h => by
    have h1 := hoB j hj
    rcases h with h | h
    · have := HL4.out.lt j h; omega
    · have := HL4.out.wb.lt; omega)
  have HB5 := Lib.hid hqB
  have HA5 := Lib.hid (HA4.out.below hb5)
  have HL5 := Lib.hid (HL4.out.mv hb5)
  obtain ⟨aB, cB, rfl, _⟩ := hrB
  rw [ab_length] at HB5 ⊢
  clear hqB hoB hb5 HF4 HL4 HA4
  obtain ⟨A, hA⟩ : ∃ A, A = few lx := ⟨_, rfl⟩
  obtain ⟨Z, hZ⟩ : ∃ Z, Z = few ly := ⟨_, rfl⟩
  have HFA : Hid (Fit A) := Lib.hid (by rw [hA]; exact few_fit lx)
  have HFZ : Hid (Fit Z) := Lib.hid (by rw [hZ]; exact few_fit ly)
  have hlA : A.length ≤ 8 := by rw [hA]; exact few_length lx
  have hlZ : Z.length ≤ 8 := by rw [hZ]; exact few_length ly
  have hrA : (rcsB A).length ≤ 1664 := by rw [hA]; exact few_all lx
  have hrZ : (rcsB Z).length ≤ 1664 := by rw [hZ]; exact few_all ly
  rw [← hA] at HA5 ⊢
  rw [← hZ] at HB5 ⊢
  clear hA hZ
  obtain ⟨e6, n6⟩ := y0_nic.app A (by omega)
  have l6 := (app_log y0_log HFA.out).1 e6
  rw [List.nil_append] at l6
  obtain ⟨x6, hx6⟩ : ∃ x, x = apX Y0 A := ⟨_, rfl⟩
  have hcall := append_log (L := A) HL5.out.na.p HL5.out.lt HL5.out.wb HL5.out.nb (y0_nic.okn 1 _ (by omega) (by omega)) HA5.out.1 HFA.out (by omega) (by omega) (by decide) (by decide)
  rw [e6] at hcall
  rw [← hx6] at hcall n6 l6
  have HC := Lib.hid hcall
  have HN6 := Lib.hid (n6.weak (k' := 1) (u' := 1664) (by omega) (by omega))
  have HLG6 := Lib.hid l6
  clear hcall e6 n6 l6 hx6
  go_wp2_with fail
  refine HC.out.mono ?_
  rintro e w6 ⟨rfl, hc⟩
  obtain ⟨S6, h6, k6⟩ := HL5.out.chg hc
  have HNA6 := Lib.hid h6.na
  have HA6 := Lib.hid ((HA5.out.keeps k6).sub (T1 := S6) fun _ => .inl)
  have HB6 := Lib.hid ((HB5.out.keeps k6).sub (T1 := S6) fun _ => .inl)
  clear hc h6 k6 HC HL5 HA5 HB5
  go_wp2_with fail
  refine (HNA6.out.crash (by have := HN6.out.used; omega) (rdi_below HPS.out HNA6.out.bel) (fun g hg hs => by have := (HNA6.out.hS g hs).1; omega)).mono ?_
  rintro e w7 ⟨⟨u, rfl⟩, S7, p, q, h7, k7, _⟩
  obtain ⟨W, _, _, d7⟩ := HLG6.out.crash p q
  have n7 := HN6.out.crash p q
  obtain ⟨x7, hx7⟩ : ∃ x, x = x6.crash p q := ⟨_, rfl⟩
  obtain ⟨M, hM⟩ : ∃ M, M = A.take W := ⟨_, rfl⟩
  rw [← hx7] at h7 d7 n7
  rw [← hM] at d7
  have HM := Lib.hid hM
  have HFM : Hid (Fit M) := Lib.hid (by rw [hM]; exact HFA.out.take W)
  have HNA7 := Lib.hid h7
  have HA7 := Lib.hid (HA6.out.keeps k7)
  have HB7 := Lib.hid (HB6.out.keeps k7)
  have HO7 := Lib.hid (open_log h7.p (fun k hk => (h7.hS k hk).2) (n7.okn 3 0 (by omega) (by omega)) n7.off)
  have HD7 := Lib.hid d7
  have HN7 := Lib.hid n7
  clear hx7 hM h7 d7 n7 k7 HNA6 HA6 HB6 HN6 HLG6
  go_wp2_with fail
  refine HO7.out.mono ?_
  rintro e w8 ⟨p, v, S8, rfl, hok⟩
  obtain ⟨e8, n8⟩ := HN7.out.opn
  obtain ⟨C, rfl, _, hls, hlst⟩ := HNA7.out.opened hok e8
  have k8 := (HNA7.out.open_ hok).2
  rw [HD7.out.recs] at hlst
  have d8 := (open_dur HD7.out).1
  rw [e8]
  obtain ⟨x8, hx8⟩ : ∃ x, x = x7.opX := ⟨_, rfl⟩
  rw [← hx8] at hls d8 n8
  have HNA8 := Lib.hid hls.na
  have HA8 := Lib.hid (HA7.out.keeps k8)
  have HB8 := Lib.hid (HB7.out.keeps k8)
  have HM8 : Hid (Lsq S8 w8 v M) := Lib.hid ((hlst.sub (T1 := S8) fun _ => .inl).q)
  have HO8 := Lib.hid (open_log hls.na.p (fun k hk => (hls.na.hS k hk).2) (n8.okn 3 0 (by omega) (by omega)) n8.off)
  have HD8 := Lib.hid d8
  have HN8 := Lib.hid n8
  obtain ⟨aM, cM, rfl, _⟩ := hlst.rd
  rw [ab_length] at HM8 ⊢
  clear hok hls hlst k8 e8 n8 d8 hx8 HO7 HNA7 HA7 HB7 HD7 HN7
  go_wp2_with fail
  refine HO8.out.mono ?_
  rintro e w9 ⟨p, v, S9, rfl, hok⟩
  obtain ⟨e9, n9⟩ := HN8.out.opn
  obtain ⟨Y, rfl, hY, hls, hlst⟩ := HNA8.out.opened hok e9
  have k9 := (HNA8.out.open_ hok).2
  rw [HD8.out.recs] at hlst hls
  have l9 := (open_dur HD8.out).2 e9
  have hz9 : x8.good ≤ 1000000 := by
    unfold Ld.good
    rw [HD8.out.recs, HM.out]
    have h1 : (rcsB (A.take W)).length ≤ (rcsB A).length := by
      have e : rcsB A = rcsB (A.take W) ++ rcsB (A.drop W) := by rw [← rcs_append, List.take_append_drop]
      rw [e, List.length_append]; omega
    omega
  rw [e9]
  obtain ⟨x9, hx9⟩ : ∃ x, x = x8.opX := ⟨_, rfl⟩
  obtain ⟨z9, hz9'⟩ : ∃ z, z = x8.good := ⟨_, rfl⟩
  rw [← hx9] at hls l9 n9
  rw [← hz9'] at hls hz9
  have HL9 := Lib.hid hls
  have HB9 := Lib.hid (HB8.out.beside k9 hY)
  have HM9 := Lib.hid (HM8.out.beside k9 hY)
  have HLG9 := Lib.hid l9
  have HN9 := Lib.hid n9
  have hlM : M.length ≤ 8 := by rw [HM.out, List.length_take]; omega
  have HSAME := Lib.hid (same_any HM9.out.1 hlst.rd (by rw [ab_length]; omega))
  have HA9 := Lib.hid (HA8.out.keeps k9)
  rw [show decide (ab M = ab M) = true from decide_eq_true rfl] at HSAME
  obtain ⟨aM2, cM2, rfl, _⟩ := hlst.rd
  rw [ab_length] at HSAME ⊢
  clear hok hls hlst k9 e9 n9 l9 hx9 hz9' hY HO8 HNA8 HA8 HB8 HD8 HN8 HM8
  go_wp2_with fail
  refine HSAME.out.mono ?_
  rintro e w10 ⟨rfl, hb10⟩
  have HB10 := Lib.hid hb10
  have HPF := Lib.hid (prefix_any (HM9.out.1.below hb10) (HA9.out.1.below hb10) (by rw [ab_length]; omega) 0)
  have hpf : pfx (ab M) (ab A) 0 = true := by
    unfold pfx
    rw [decide_eq_true_eq]
    refine ⟨?_, Nat.zero_le _, ?_⟩
    · rw [ab_length, ab_length, HM.out, List.length_take]; omega
    · rw [ab_length, HM.out, List.length_take]
      unfold ab
      rw [List.map_take]
      by_cases hW : W ≤ A.length
      · rw [Nat.min_eq_left hW]
      · rw [Nat.min_eq_right (by omega), List.take_of_length_le (by rw [List.length_map]; omega), List.take_of_length_le (by rw [List.length_map]; omega)]
  rw [hpf] at HPF
  clear hb10 hpf HSAME HA9
  go_wp2_with fail
  refine HPF.out.mono ?_
  rintro e w11 ⟨rfl, hb11⟩
  have HB11 := Lib.hid (HB10.out.trans (hb11.mono HB10.out.size))
  have HFI := Lib.hid (firm_any (HL9.out.wb.below HB11.out) (.inr ⟨b, rfl⟩))
  clear hb11 HPF HB10
  go_wp2_with fail
  refine HFI.out.mono ?_
  rintro e w12 ⟨rfl, hb12⟩
  have hb := HB11.out.trans (hb12.mono HB11.out.size)
  have HL12 := Lib.hid (HL9.out.mv hb)
  have HB12 := Lib.hid (HB9.out.below hb)
  have HM12 := Lib.hid (HM9.out.below hb)
  clear hb hb12 HB11 HL9 HB9 HM9 HFI
  obtain ⟨e13, n13⟩ := HN9.out.app Z (by omega)
  have l13 := (app_log HLG9.out HFZ.out).1 e13
  obtain ⟨x13, hx13⟩ : ∃ x, x = apX x9 Z := ⟨_, rfl⟩
  obtain ⟨m, hm⟩ : ∃ m, m = M.length := ⟨_, rfl⟩
  obtain ⟨z, hz⟩ : ∃ z, z = Z.length := ⟨_, rfl⟩
  have hcall := append_log (L := Z) HL12.out.na.p HL12.out.lt HL12.out.wb HL12.out.nb (HN9.out.okn 1 _ (by omega) (by omega)) HB12.out.1 HFZ.out (by omega) (by omega) (by omega) (by omega)
  rw [e13] at hcall
  rw [← hx13] at hcall n13 l13
  rw [← hm] at hcall l13 HL12 HM12 hlM ⊢
  rw [← hz] at hcall HB12 hlZ ⊢
  have HMM := Lib.hid hm
  have HZZ := Lib.hid hz
  have HC := Lib.hid hcall
  have HN13 := Lib.hid (n13.weak (k' := 10) (u' := 3328) (by omega) (by omega))
  have HLG13 := Lib.hid l13
  clear hcall e13 n13 l13 hx13 hm hz HN9 HLG9
  go_wp2_with fail
  refine HC.out.mono ?_
  rintro e w13 ⟨rfl, hc⟩
  obtain ⟨S13, h13, k13⟩ := HL12.out.chg hc
  have h13 : LS w.heap.size S13 w b x13 Y (ptr b) (m + z) m (z9 + (rcsB Z).length) w13 := h13
  have HL13 := Lib.hid h13
  have HB13 := Lib.hid (HB12.out.keeps k13)
  have HM13 := Lib.hid (HM12.out.keeps k13)
  clear hc h13 k13 HC HL12 HB12 HM12
  have hmz : m + z = (M ++ Z).length := by rw [List.length_append, HMM.out, HZZ.out]
  obtain ⟨e14, n14⟩ := HN13.out.syn (m + z) m (by
    rcases HLG13.out.lo with h | ⟨_, h⟩
    · rw [h]; exact .inl rfl
    · refine .inr ?_
      have := congrArg List.length h
      rw [← hmz] at this
      simp at this
      omega)
  have l14 := (sync_log' HLG13.out hmz).1 e14
  obtain ⟨x14, hx14⟩ : ∃ x, x = syX x13 (m + z) m := ⟨_, rfl⟩
  have hcall := sync_log HL13.out.na.p HL13.out.lt HL13.out.wb HL13.out.nb (HN13.out.okn 1 0 (by omega) (by omega)) (by omega)
  rw [e14] at hcall
  rw [← hx14] at hcall n14 l14
  have HC := Lib.hid hcall
  have HN14 := Lib.hid n14
  have HLG14 := Lib.hid l14
  have HMZ := Lib.hid hmz
  clear hcall e14 n14 l14 hx14 HN13 HLG13 hmz
  go_wp2_with fail
  refine HC.out.mono ?_
  rintro e w14 ⟨rfl, hc⟩
  obtain ⟨S14, h14, k14⟩ := HL13.out.chg hc
  have HNA14 := Lib.hid h14.na
  have HB14 := Lib.hid ((HB13.out.keeps k14).sub (T1 := S14) fun _ => .inl)
  have HM14 := Lib.hid ((HM13.out.keeps k14).sub (T1 := S14) fun _ => .inl)
  clear hc h14 k14 HC HL13 HB13 HM13
  go_wp2_with fail
  refine (HNA14.out.crash (by have := HN14.out.used; omega) (rdi_below HPS.out HNA14.out.bel) (fun g hg hs => by have := (HNA14.out.hS g hs).1; omega)).mono ?_
  rintro e w15 ⟨⟨u, rfl⟩, S15, p, q, h15, k15, _⟩
  obtain ⟨W2, hW2, _, d15⟩ := HLG14.out.crash p q
  rw [List.take_of_length_le hW2] at d15
  have n15 := HN14.out.crash p q
  obtain ⟨x15, hx15⟩ : ∃ x, x = x14.crash p q := ⟨_, rfl⟩
  rw [← hx15] at h15 d15 n15
  have HNA15 := Lib.hid h15
  have HB15 := Lib.hid (HB14.out.keeps k15)
  have HM15 := Lib.hid (HM14.out.keeps k15)
  have HO15 := Lib.hid (open_log h15.p (fun k hk => (h15.hS k hk).2) (n15.okn 3 0 (by omega) (by omega)) n15.off)
  have HD15 := Lib.hid d15
  have HN15 := Lib.hid n15
  clear hx15 h15 d15 n15 k15 HNA14 HB14 HM14 HN14 HLG14 hW2
  go_wp2_with fail
  refine HO15.out.mono ?_
  rintro e w16 ⟨p, v, S16, rfl, hok⟩
  obtain ⟨e16, n16⟩ := HN15.out.opn
  obtain ⟨Y2, rfl, hY2, hls, hlst⟩ := HNA15.out.opened hok e16
  have k16 := (HNA15.out.open_ hok).2
  rw [HD15.out.recs] at hlst
  rw [e16]
  have HBEL := Lib.hid hls.na.bel
  have HB16 := Lib.hid (HB15.out.keeps k16)
  have HM16 := Lib.hid (HM15.out.keeps k16)
  obtain ⟨v1, hv1, hr1⟩ := hlst.rd.take m (by rw [ab_length, ← HMZ.out]; omega)
  obtain ⟨v2, hv2, hr2⟩ := hlst.rd.drop m (by rw [ab_length, ← HMZ.out]; omega)
  have hab : ab (M ++ Z) = ab M ++ ab Z := by unfold ab; rw [List.map_append]
  have hml : m = (ab M).length := by rw [ab_length, ← HMM.out]
  rw [hab] at hr1 hr2
  rw [List.take_left' hml.symm] at hr1
  rw [List.drop_left' hml.symm] at hr2
  have HR1 := Lib.hid hr1
  have HR2 := Lib.hid hr2
  have HS1 := Lib.hid (same_any hr1 HM16.out.1 (by rw [← hml]; omega))
  rw [show decide (ab M = ab M) = true from decide_eq_true rfl] at HS1
  obtain ⟨ao, co, rfl, _⟩ := hlst.rd
  rw [ab_length, ← HMZ.out] at hv1 hv2 ⊢
  obtain ⟨a1, c1, rfl, _⟩ := hr1
  obtain ⟨a2, c2, rfl, _⟩ := hr2
  rw [ab_length, ← HMM.out] at hv1 HS1
  rw [ab_length, ← HZZ.out] at hv2 HR2
  clear hok hls hlst k16 e16 n16 hY2 HO15 HNA15 HB15 HM15 HD15 HN15 hab hml
  go_wp2_with fail
  refine HS1.out.mono ?_
  rintro e w17 ⟨rfl, hb17⟩
  have HB17 := Lib.hid (HBEL.out.trans (hb17.mono HBEL.out.size))
  have HS2 := Lib.hid (same_any (HR2.out.below hb17) (HB16.out.1.below hb17) (by rw [ab_length, ← HZZ.out]; omega))
  rw [show decide (ab Z = ab Z) = true from decide_eq_true rfl] at HS2
  clear hb17 HS1 HBEL
  go_wp2_with fail
  refine HS2.out.mono ?_
  rintro e w18 ⟨rfl, hb18⟩
  have HB18 := Lib.hid (HB17.out.trans (hb18.mono HB17.out.size))
  clear hb18
  go_wp2
  go_ret
  exact ⟨rfl, HB18.out⟩
end Go.Proofs.Ytpiiknbjllgaoaa
