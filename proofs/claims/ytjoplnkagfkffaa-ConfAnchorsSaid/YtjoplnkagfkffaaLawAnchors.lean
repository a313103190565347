/-
  The walk of the law ConfAnchors: it returns true; no older memory is changed.
-/
import Derived.Test.YtjoplnkagfkffaaAncStep
namespace Go.Proofs.Ytjoplnkagfkffaa
open Go.RowKit
theorem short60_all (s : ByteArray) (h : s.size ≤ 60) (w : World) :
    Calls Try.prog 7 #[.string s, .int .i64 60] w fun e w' => e = .returned (.string s) ∧ w = w' := by
  go_enter Try.func7, Try.ntmps7
  go_wp2
  go_ret
  exact ⟨rfl, rfl⟩
theorem short60_cut (s : ByteArray) (h : 60 < s.size) (w : World) :
    Calls Try.prog 7 #[.string s, .int .i64 60] w fun e w' => e = .returned (.string (s.extract 0 60)) ∧ w = w' := by
  have q1 : (60 : Int) < (s.size : Int) := by omega
  have q2 : 60 ≤ s.size := by omega
  go_enter Try.func7, Try.ntmps7
  go_wp2
  go_ret
  exact ⟨rfl, rfl⟩
/-- THE CUT: what stands there behind it is of no more than 60 bytes. -/
theorem short60_any (s : ByteArray) : ∃ t : ByteArray, t.size ≤ 60 ∧ ∀ w : World, Calls Try.prog 7 #[.string s, .int .i64 60] w fun e w' => e = .returned (.string t) ∧ w = w' := by
  by_cases h : s.size ≤ 60
  · exact ⟨s, h, fun w => short60_all s h w⟩
  · exact ⟨s.extract 0 60, by simp; omega, fun w => short60_cut s (by omega) w⟩
/-- What holds of a configuration behind so many orders. -/
structure AnOk (C : Cf) : Prop where
  ok : C.Ok
  s : Srt C.anchors
  l : C.anchors.length ≤ 16
  t : ∀ x ∈ C.anchors, x.text.size ≤ 60
theorem AnOk.zero : AnOk Cf.zero := ⟨zero_ok, List.Pairwise.nil, by decide, fun x hx => by cases hx⟩
theorem AnOk.set {C : Cf} (h : AnOk C) {t : An} (h1 : t.name.size ≤ 60) (h2 : t.text.size ≤ 60) : AnOk (ancC C (setL C.anchors t)) := by
  have hl := setL_len (t := t) h.l
  refine ⟨⟨h.ok.r, h.ok.h, Nat.le_trans hl (by decide), h.ok.f, fun x hx => ?_, h.ok.fz⟩, setL_srt h.s, hl, fun x hx => ?_⟩
  · rcases setL_mem hx with rfl | hx
    · omega
    · exact h.ok.an x hx
  · rcases setL_mem hx with rfl | hx
    · exact h2
    · exact h.t x hx
theorem er_cases {L : List An} {t : An} {q : Nat} {g : Bool} {er : Int} (hl : L.length ≤ 16) (hq : q = L.length) (hg : g = L.any (isA t)) (he : er = setE L t) :
    (er = 0 ∧ (decide (q = 16) && !g && !(t.text.toList == [])) = false) ∨ (er = 15 ∧ (decide (q = 16) && !g && !(t.text.toList == [])) = true) := by
  have h := full_iff (t := t) hl
  rw [he]
  unfold setE em
  by_cases h1 : (t.text.toList == []) = true
  · rw [if_pos h1, h1]
    exact .inl ⟨rfl, by simp⟩
  · have h1' : (t.text.toList == []) = false := by simpa using h1
    rw [if_neg h1, h1']
    by_cases h2 : 16 ≤ (keptA L t).length
    · obtain ⟨h3, h4⟩ := h.1 h2
      rw [if_pos h2, hg, h4, hq, h3]
      exact .inr ⟨rfl, by simp⟩
    · rw [if_neg h2]
      refine .inl ⟨rfl, ?_⟩
      by_cases h3 : q = 16
      · have h4 : g = true := by
          cases hgg : g with
          | true => rfl
          | false => exact absurd (h.2 ⟨by omega, by rw [← hg, hgg]⟩) h2
        rw [h4]; simp
      · rw [decide_eq_false h3]; rfl
theorem any_next {α : Type} {p : α → Bool} {L : List α} {j : Nat} {x : α} (h : L[j]? = some x) : (L.take (j + 1)).any p = ((L.take j).any p || p x) := by
  rw [List.take_add_one, h, List.any_append]
  simp
set_option maxRecDepth 100000 in
set_option maxHeartbeats 12800000 in
theorem lawAnchors_any {w : World} {v : Value} {N : List An} (hN : RdX elA w v N) :
    Calls Try.prog 5 #[v] w fun e w' => e = .returned (.bool true) ∧ Below w.heap.size w w' := by
  obtain ⟨va, vc, rfl, _, hcm⟩ := hN.shape
  have HN := Lib.hid hN
  obtain ⟨len, hlen⟩ : ∃ l, l = N.length := ⟨_, rfl⟩
  have HL := Lib.hid hlen
  rw [← hlen] at HN ⊢
  clear hN hlen hcm
  go_enter Try.func5, Try.ntmps5
  go_wp2_with fail
  refine (awake_any w).mono ?_
  rintro e wA ⟨rfl, hbA⟩
  have HBA := Lib.hid hbA
  clear hbA
  go_upto_region 4 with fail
  generalize hw : World.alloc wA _ = wB
  have HC0 : Hid (Ce wB wA.heap.size 29 #[.slice none 0 0, .slice none 0 0, .slice none 0 0, it 0, .slice none 0 0]) := Lib.hid (by rw [← hw]; exact Ce.new wA _ _)
  have HB0 : Hid (Below w.heap.size w wB) := Lib.hid (by rw [← hw]; exact HBA.out.trans ((one_new wA _).mono HBA.out.size))
  have HWN : Hid (w.heap.size ≤ wA.heap.size) := Lib.hid HBA.out.size
  obtain ⟨cb, hcb⟩ : ∃ c, c = wA.heap.size := ⟨_, rfl⟩
  rw [← hcb] at HC0 HWN ⊢
  clear hcb hw HBA
  go_loopw [5] (fun i wr => ∃ (k : Nat) (C : Cf) (r h a fs : Value), k ≤ len ∧ k ≤ 60 ∧ i = it (k : Int) ∧ Ce wr cb 29 #[r, h, a, it C.epoch, fs] ∧ OwnC wr 0 r h a fs C ∧ AnOk C ∧ Below w.heap.size w wr) (fun i _ => 60 - (intOf i).toNat)
  case atStart =>
    exact ⟨0, Cf.zero, _, _, _, _, Nat.zero_le _, Nat.zero_le _, rfl, HC0.out, ⟨OwnX.nil _ _, OwnX.nil _ _, OwnX.nil _ _, OwnX.nil _ _⟩, AnOk.zero, HB0.out⟩
  case round =>
    obtain ⟨k, C, r, h, a, fs, hk, hk60, rfl, hC, hR, hok, hb⟩ := hrel
    have HC := Lib.hid hC
    have HR := Lib.hid hR
    have HOK := Lib.hid hok
    have HB := Lib.hid hb
    by_cases hlt : k < len ∧ k < 60
    · obtain ⟨hl1, hl2⟩ := hlt
      have HKK : Hid (k + 1 ≤ len ∧ k + 1 ≤ 60) := Lib.hid (by omega)
      have q1 : (k : Int) < (len : Int) := by omega
      have q1' : decide ((k : Int) < (len : Int)) = true := decide_eq_true q1
      have q2 : (k : Int) < 60 := by omega
      have q3 : k < len := by omega
      obtain ⟨⟨sn, st⟩, hs⟩ : ∃ s, N[k]? = some s := ⟨_, List.getElem?_eq_getElem (by rw [← HL.out]; exact hl1)⟩
      obtain ⟨b, o, rfl, hg, c0, c1⟩ := at2 HN.out rfl hs rfl
      have c0 : wr.cell? ⟨b, o + k * 2, none⟩ = some (.string sn) := (hb.cell (p := ⟨b, o + k * 2, none⟩) hg).trans c0
      have c1 : wr.cell? ⟨b, o + k * 2 + 1, none⟩ = some (.string st) := (hb.cell (p := ⟨b, o + k * 2 + 1, none⟩) hg).trans c1
      clear hC hR hok hb hs
      obtain ⟨nt, hnt, SN⟩ := short60_any sn
      obtain ⟨tt, htt, ST⟩ := short60_any st
      have SN := Lib.hid SN
      have ST := Lib.hid ST
      go_upto_region 6 with fail
      have hwr : b < wr.heap.size := Nat.lt_of_lt_of_le hg HB.out.size
      go_cut [6] from 27 to 39 (fun v wx => ∃ ab : Nat, v = ptr ab ∧ Ce wx ab 43 #[.string nt, .string tt] ∧ wr.heap.size ≤ ab ∧ Below wr.heap.size wr wx)
      case first =>
        go_region_held3 (fun w' => w'.cell? ⟨b, o + k * 2, none⟩ = some (.string sn) ∧ w'.cell? ⟨b, o + k * 2 + 1, none⟩ = some (.string st))
          (first | with_reducible exact ⟨c0, c1⟩ | go_keep | fail)
          (first
            | (go_at_call_of 7 (Value.string sn); refine (SN.out _).mono ?_; rintro e w2 ⟨rfl, rfl⟩)
            | (go_at_call_of 7 (Value.string st); refine (ST.out _).mono ?_; rintro e w2 ⟨rfl, rfl⟩)
            | fail)
        all_goals (go_wp2; go_meet; exact ⟨wr.heap.size, rfl, Ce.new wr 43 _, Nat.le_refl _, (one_new wr _).drew⟩)
      case rest =>
        obtain ⟨ab, rfl, hAB, hab, hbc⟩ := hcut
        have HAB := Lib.hid hAB
        have HBC := Lib.hid (HB.out.trans (hbc.mono HB.out.size))
        have HC1 := Lib.hid (HC.out.below hbc)
        have HR1 := Lib.hid (HR.out.below hbc)
        have HG : Hid (cb < ab) := Lib.hid (by have := HC.out.lt; omega)
        clear HC HR HB c0 c1 hAB hab hbc hwr hg SN ST
        by_cases hzc : chk (bl nt) = 0
        · have HZC := Lib.hid hzc
          have HAP := Lib.hid (apply_anchor (t := ⟨nt, tt⟩) HR1.out.rd HOK.out.ok HOK.out.s hzc (by show nt.size ≤ _; omega) (by show tt.size ≤ _; omega))
          have HOKD : Hid (AnOk (ancC C (setL C.anchors ⟨nt, tt⟩))) := Lib.hid (HOK.out.set (t := ⟨nt, tt⟩) hnt htt)
          have HFI := Lib.hid (full_iff (t := ⟨nt, tt⟩) HOK.out.l)
          have HFS : Hid (setE C.anchors ⟨nt, tt⟩ = 0 → fnd ⟨nt, tt⟩ (setL C.anchors ⟨nt, tt⟩) = tt) := Lib.hid (fnd_set (t := ⟨nt, tt⟩) hzc)
          obtain ⟨er, her⟩ : ∃ er, er = setE C.anchors ⟨nt, tt⟩ := ⟨_, rfl⟩
          obtain ⟨D, hD⟩ : ∃ D, D = setL C.anchors ⟨nt, tt⟩ := ⟨_, rfl⟩
          rw [← her, ← hD] at HAP
          rw [← her, ← hD] at HFS
          rw [← hD] at HOKD
          have HER := Lib.hid her
          clear her hD
          obtain ⟨e0, e1, e2, e3, e4⟩ := c5 HC1.out
          obtain ⟨d0, d1⟩ := c2 HAB.out
          go_wp2_with fail
          refine HAP.out.mono ?_
          rintro e w5 ⟨r5, h5, a5, f5, rfl, ho5, hb5⟩
          obtain ⟨⟨x1, y1, rfl⟩, ⟨x2, y2, rfl⟩, ⟨x3, y3, rfl⟩, ⟨x4, y4, rfl⟩⟩ := ho5.rd.shape
          obtain ⟨l1, hl1'⟩ : ∃ l, l = (ancC C D).ring.length := ⟨_, rfl⟩
          obtain ⟨l2, hl2'⟩ : ∃ l, l = (ancC C D).hints.length := ⟨_, rfl⟩
          obtain ⟨l3, hl3'⟩ : ∃ l, l = (ancC C D).anchors.length := ⟨_, rfl⟩
          obtain ⟨l4, hl4'⟩ : ∃ l, l = (ancC C D).flushes.length := ⟨_, rfl⟩
          have HL3 : Hid (l3 = D.length) := Lib.hid hl3'
          rw [← hl1', ← hl2', ← hl3', ← hl4'] at ho5 ⊢
          have hbn := one_new w5 (.cells #[.slice x1 l1 y1, .slice x2 l2 y2, .slice x3 l3 y3, it C.epoch, .slice x4 l4 y4] 29)
          have HD5 := Lib.hid (Ce.new w5 29 #[.slice x1 l1 y1, .slice x2 l2 y2, .slice x3 l3 y3, it C.epoch, .slice x4 l4 y4])
          have HO5 := Lib.hid ((ho5.below hbn).weak (base' := 0) (Nat.zero_le _))
          have hB5 : Below wc.heap.size wc (w5.alloc (.cells #[.slice x1 l1 y1, .slice x2 l2 y2, .slice x3 l3 y3, it C.epoch, .slice x4 l4 y4] 29)) := hb5.trans (hbn.mono hb5.size)
          have HB5 := Lib.hid hB5
          have HC5 := Lib.hid (HC1.out.below hB5)
          have HR5 := Lib.hid (HR1.out.below hB5)
          have HA5 := Lib.hid (HAB.out.below hB5)
          have HW5 := Lib.hid (HBC.out.trans (hB5.mono HBC.out.size))
          have HDB : Hid (cb < w5.heap.size) := Lib.hid (by have := HC1.out.lt; have := hb5.size; omega)
          clear ho5 hb5 hbn hB5 hl1' hl2' hl3' hl4' e0 e1 e2 e3 e4 d0 d1 HAP HC1 HR1 HAB HBC
          go_upto_region 8 with fail
          generalize w5.alloc _ = w6 at *
          obtain ⟨db, hdb⟩ : ∃ d, d = w5.heap.size := ⟨_, rfl⟩
          rw [← hdb] at HD5 HDB ⊢
          clear hdb
          obtain ⟨d0, d1⟩ := c2 HA5.out
          go_wp2_with fail
          refine (rcheck_any nt (by omega) w6).mono ?_
          rintro e w7 ⟨rfl, hb7⟩
          have q4 : chk nt.data.toList = 0 := hzc
          rw [q4]
          have HB7 := Lib.hid hb7
          clear hb7 hzc q4 d0 d1
          obtain ⟨ra, rc, hra, _⟩ := HR5.out.a.shape
          subst hra
          obtain ⟨la, hla⟩ : ∃ l, l = C.anchors.length := ⟨_, rfl⟩
          have HLA := Lib.hid hla
          rw [← hla] at HC5 HR5
          clear hla
          have hla16 : la ≤ 16 := by have := HOK.out.l; have := HLA.out; omega
          go_upto_region 13 with fail
          go_loopw [9, 10] (fun hv j wz => ∃ q : Nat, q ≤ la ∧ j = it (q : Int) ∧ hv = .bool ((C.anchors.take q).any (isA ⟨nt, tt⟩)) ∧ Below w7.heap.size w7 wz) (fun _ j _ => la - (intOf j).toNat)
          case atStart => exact ⟨0, Nat.zero_le _, rfl, by simp, Below.refl _ _⟩
          case round =>
            obtain ⟨q, hq, rfl, rfl, hbz⟩ := hrel
            have HBZ := Lib.hid (HB7.out.trans (hbz.mono HB7.out.size))
            have HBZ7 := Lib.hid hbz
            clear hbz
            obtain ⟨g, hg⟩ : ∃ g, g = (C.anchors.take q).any (isA ⟨nt, tt⟩) := ⟨_, rfl⟩
            rw [← hg]
            have HGG := Lib.hid hg
            clear hg
            by_cases hql : q < la
            · obtain ⟨⟨xn, xt⟩, hx⟩ : ∃ x, C.anchors[q]? = some x := ⟨_, List.getElem?_eq_getElem (by rw [← HLA.out]; exact hql)⟩
              have HX := Lib.hid hx
              obtain ⟨g2, o2, rfl, hg2, c0, c1⟩ := at2 HR5.out.a.rd rfl hx rfl
              have c0 : wr.cell? ⟨g2, o2 + q * 2, none⟩ = some (.string xn) := (HBZ.out.cell (p := ⟨g2, o2 + q * 2, none⟩) hg2).trans c0
              obtain ⟨e0, e1, e2, e3, e4⟩ := c5 (HC5.out.below HBZ.out)
              obtain ⟨d0, d1⟩ := c2 (HA5.out.below HBZ.out)
              have HSM := Lib.hid (rsame_any xn nt (HOK.out.ok.an _ (List.mem_of_getElem? hx)) (by omega) wr.drew)
              obtain ⟨sm, hsm⟩ : ∃ sm, sm = sam (bl xn) (bl nt) := ⟨_, rfl⟩
              have HSE : Hid (isA ⟨nt, tt⟩ ⟨xn, xt⟩ = sm) := Lib.hid hsm.symm
              rw [← hsm] at HSM
              have p1 : (q : Int) < (la : Int) := by omega
              have p2 : decide ((q : Int) < (la : Int)) = true := decide_eq_true p1
              have HQ : Hid (q + 1 ≤ la) := Lib.hid hql
              clear hx hsm c1
              go_upto_region 15 with fail
              go_still_tail 8, (by kernel_rfl)
              change wpList _ _ _ _ _ wr.drew
              go_wp2_with fail
              refine HSM.out.mono ?_
              rintro e w9 ⟨rfl, hb9⟩
              have HB9 : Hid (Below w7.heap.size w7 w9) := Lib.hid (HBZ7.out.drew.trans (hb9.mono (show w7.heap.size ≤ wr.drew.heap.size from HBZ7.out.size)))
              have HNX : Hid ((C.anchors.take (q + 1)).any (isA ⟨nt, tt⟩) = (g || sm)) := Lib.hid (by rw [any_next HX.out, HSE.out, ← HGG.out])
              clear hb9 c0 e0 e1 e2 e3 e4 d0 d1
              cases g
              · go_wp2
                go_roundw
                case rel => exact ⟨q + 1, HQ.out, by go_num, by rw [HNX.out]; rfl, HB9.out⟩
                case measure => simp [intOf]; omega
              · go_wp2
                go_roundw
                case rel => exact ⟨q + 1, HQ.out, by go_num, by rw [HNX.out]; rfl, HB9.out⟩
                case measure => simp [intOf]; omega
            · have hq' : q = la := by omega
              subst hq'
              have HGA : Hid (g = C.anchors.any (isA ⟨nt, tt⟩)) := Lib.hid (by rw [HGG.out, HLA.out, List.take_length])
              have p1 : decide ((q : Int) < (q : Int)) = false := decide_eq_false (by omega)
              obtain ⟨e0, e1, e2, e3, e4⟩ := c5 (HC5.out.below HBZ.out)
              obtain ⟨d0, d1⟩ := c2 (HA5.out.below HBZ.out)
              clear HGG
              go_upto_region 17 with fail
              go_cut [12] from 76 to 88 (fun v wx => v = .bool (decide (q = 16) && !g && !(tt.toList == [])) ∧ wr = wx)
              case first =>
                by_cases h16 : q = 16
                · subst h16
                  cases g
                  · cases htt : (tt.toList == [])
                    · go_wp2
                      go_meet
                      exact ⟨by rw [htt]; first | rfl | simp, rfl⟩
                    · go_wp2
                      go_meet
                      exact ⟨by rw [htt]; first | rfl | simp, rfl⟩
                  · go_wp2
                    go_meet
                    exact ⟨rfl, rfl⟩
                · have p3 : ((q : Int) == 16) = false := by simp; omega
                  go_wp2
                  go_meet
                  exact ⟨by rw [decide_eq_false h16]; rfl, rfl⟩
              case rest =>
                obtain ⟨rfl, rfl⟩ := hcut
                obtain ⟨F, hF⟩ : ∃ F, F = (decide (q = 16) && !g && !(tt.toList == [])) := ⟨_, rfl⟩
                have hcs : (er = 0 ∧ F = false) ∨ (er = 15 ∧ F = true) := by rw [hF]; exact er_cases (t := ⟨nt, tt⟩) HOK.out.l HLA.out HGA.out HER.out
                rw [← hF]
                have hl3 : l3 ≤ 16 := by have h1 : D.length ≤ 16 := HOKD.out.l; have h2 := HL3.out; omega
                have p4 : decide ((16 : Int) < (l3 : Int)) = false := decide_eq_false (by omega)
                have p5 : decide (16 < l3) = false := decide_eq_false (by omega)
                have HD7 := Lib.hid (HD5.out.below HBZ.out)
                have HC7 := Lib.hid (HC5.out.below HBZ.out)
                have HA7 := Lib.hid (HA5.out.below HBZ.out)
                have HO7 := Lib.hid (HO5.out.below HBZ.out)
                have HW7 := Lib.hid (HW5.out.trans (HBZ.out.mono HW5.out.size))
                have HFF : Hid (er = 0 → fnd ⟨nt, tt⟩ D = tt) := HFS
                clear hF HD5 HC5 HA5 HO5 HW5 HBZ HBZ7 HB7 HR5 HGA HER HFI HFS HOK HLA hq hql hla16 e0 e1 e2 e3 e4 d0 d1 p1
                obtain ⟨wq, rfl⟩ : ∃ wq, wq = wr := ⟨_, rfl⟩
                obtain ⟨e0, e1, e2, e3, e4⟩ := c5 HD7.out
                rcases hcs with ⟨rfl, rfl⟩ | ⟨rfl, rfl⟩
                · go_upto_region 22 with fail
                  go_loopw [13, 14] (fun fv j wz => ∃ p : Nat, p ≤ l3 ∧ fv = .string (fnd ⟨nt, tt⟩ (D.take p)) ∧ j = it (p : Int) ∧ Below wq.heap.size wq wz) (fun _ j _ => l3 - (intOf j).toNat)
                  case atStart => exact ⟨0, Nat.zero_le _, rfl, rfl, Below.refl _ _⟩
                  case round =>
                    obtain ⟨p, hp, rfl, rfl, hbz⟩ := hrel
                    have HBZ := Lib.hid hbz
                    clear hbz
                    obtain ⟨fb, hfb⟩ : ∃ fb, fb = fnd ⟨nt, tt⟩ (D.take p) := ⟨_, rfl⟩
                    rw [← hfb]
                    have HFB := Lib.hid hfb
                    clear e0 e1 e2 e3 e4
                    by_cases hql : p < l3
                    · obtain ⟨⟨xn, xt⟩, hx⟩ : ∃ x, D[p]? = some x := ⟨_, List.getElem?_eq_getElem (by rw [← HL3.out]; exact hql)⟩
                      have HX := Lib.hid hx
                      obtain ⟨g2, o2, rfl, hg2, c0, c1⟩ := at2 (show RdX elA wq (.slice x3 l3 y3) D from HO7.out.a.rd) rfl hx rfl
                      have c0 : wr.cell? ⟨g2, o2 + p * 2, none⟩ = some (.string xn) := (HBZ.out.cell (p := ⟨g2, o2 + p * 2, none⟩) hg2).trans c0
                      obtain ⟨e0, e1, e2, e3, e4⟩ := c5 (HD7.out.below HBZ.out)
                      obtain ⟨d0, d1⟩ := c2 (HA7.out.below HBZ.out)
                      have HSM := Lib.hid (rsame_any xn nt (HOKD.out.ok.an _ (List.mem_of_getElem? hx)) (by omega) wr.drew)
                      obtain ⟨sm, hsm⟩ : ∃ sm, sm = sam (bl xn) (bl nt) := ⟨_, rfl⟩
                      have HSE : Hid (isA ⟨nt, tt⟩ ⟨xn, xt⟩ = sm) := Lib.hid hsm.symm
                      rw [← hsm] at HSM
                      have p1 : (p : Int) < (l3 : Int) := by omega
                      have p2 : decide ((p : Int) < (l3 : Int)) = true := decide_eq_true p1
                      have HQ : Hid (p + 1 ≤ l3) := Lib.hid hql
                      have hz1 : xt.size ≤ 60 := HOKD.out.t _ (List.mem_of_getElem? hx)
                      have hz2 : fb.size ≤ 960 := by
                        have h1 := fnd_size (t := ⟨nt, tt⟩) (L := D.take p) (fun x hx => HOKD.out.t x (List.mem_of_mem_take hx))
                        rw [← hfb, List.length_take] at h1
                        omega
                      have hadd : ∀ w, (Op.stringOp .add fb xt).run Try.prog w = .ok (.string (fb ++ xt)) w := fun w => run_string_add_sum w fb xt (by omega)
                      have HNX : Hid (fnd ⟨nt, tt⟩ (D.take (p + 1)) = if sm then fb ++ xt else fb) := Lib.hid (by rw [fnd_snoc HX.out, HSE.out, ← HFB.out])
                      have hcw : ∀ w9, Below wr.heap.size wr w9 → w9.cell? ⟨g2, o2 + p * 2 + 1, none⟩ = some (.string xt) := fun w9 h9 => (h9.cell (p := ⟨g2, o2 + p * 2 + 1, none⟩) (Nat.lt_of_lt_of_le hg2 HBZ.out.size)).trans ((HBZ.out.cell (p := ⟨g2, o2 + p * 2 + 1, none⟩) hg2).trans c1)
                      have HCW := Lib.hid hcw
                      clear hx hsm c1 hcw hfb
                      go_upto_region 24 with fail
                      go_still_tail 8, (by kernel_rfl)
                      change wpList _ _ _ _ _ wr.drew
                      go_wp2_with fail
                      refine HSM.out.mono ?_
                      rintro e w9 ⟨rfl, hb9⟩
                      have HBR : Hid (Below wr.heap.size wr w9) := Lib.hid ((Below.refl _ wr).drew.trans hb9)
                      have HB9 : Hid (Below wq.heap.size wq w9) := Lib.hid (HBZ.out.trans (HBR.out.mono HBZ.out.size))
                      clear hb9 c0 e0 e1 e2 e3 e4 d0 d1
                      cases sm
                      · clear hadd
                        go_wp2
                        go_roundw
                        case rel => exact ⟨p + 1, HQ.out, by rw [HNX.out]; rfl, by go_num, HB9.out⟩
                        case measure => simp [intOf]; omega
                      · have c1 := HCW.out _ HBR.out
                        obtain ⟨e0, e1, e2, e3, e4⟩ := c5 (HD7.out.below HB9.out)
                        go_wp2
                        go_roundw
                        case rel => exact ⟨p + 1, HQ.out, by rw [HNX.out]; rfl, by go_num, HB9.out⟩
                        case measure => simp [intOf]; omega
                    · obtain rfl : p = l3 := by omega
                      have hfa : fb = fnd ⟨nt, tt⟩ D := by rw [hfb, List.take_of_length_le (by have := HL3.out; omega)]
                      clear hfb HFB
                      have p6 : decide ((p : Int) < (p : Int)) = false := decide_eq_false (by omega)
                      have hft := HFF.out (by first | trivial | rfl)
                      rw [hft] at hfa
                      clear hft
                      subst hfa
                      have p7 : (fb.toList == fb.toList) = true := by simp
                      have HD9 := Lib.hid (HD7.out.below HBZ.out)
                      have HC9 := Lib.hid (HC7.out.below HBZ.out)
                      have HO9 := Lib.hid (HO7.out.below HBZ.out)
                      have HW9 := Lib.hid (HW7.out.trans (HBZ.out.mono HW7.out.size))
                      obtain ⟨e0, e1, e2, e3, e4⟩ := c5 HD9.out
                      obtain ⟨d0, d1⟩ := c2 (HA7.out.below HBZ.out)
                      obtain ⟨f0, f1, f2, f3, f4⟩ := f5 HC9.out
                      obtain ⟨h0, h1, h2, h3, h4⟩ := c5 HC9.out
                      go_upto_region 29 with fail
                      have HC10 : Hid (Ce (World.setCell (World.setCell (World.setCell (World.setCell (World.setCell wr ⟨cb, 0, none⟩ (.slice x1 l1 y1)) ⟨cb, 1, none⟩ (.slice x2 l2 y2)) ⟨cb, 2, none⟩ (.slice x3 p y3)) ⟨cb, 3, none⟩ (it C.epoch)) ⟨cb, 4, none⟩ (.slice x4 l4 y4)) cb 29 #[.slice x1 l1 y1, .slice x2 l2 y2, .slice x3 p y3, it C.epoch, .slice x4 l4 y4]) := Lib.hid (set5_ce HC9.out (.slice x1 l1 y1) (.slice x2 l2 y2) (.slice x3 p y3) (it C.epoch) (.slice x4 l4 y4))
                      have HO10 : Hid (OwnC (World.setCell (World.setCell (World.setCell (World.setCell (World.setCell wr ⟨cb, 0, none⟩ (.slice x1 l1 y1)) ⟨cb, 1, none⟩ (.slice x2 l2 y2)) ⟨cb, 2, none⟩ (.slice x3 p y3)) ⟨cb, 3, none⟩ (it C.epoch)) ⟨cb, 4, none⟩ (.slice x4 l4 y4)) 0 (.slice x1 l1 y1) (.slice x2 l2 y2) (.slice x3 p y3) (.slice x4 l4 y4) (ancC C D)) := Lib.hid (HO9.out.set5 HC9.out (.slice x1 l1 y1) (.slice x2 l2 y2) (.slice x3 p y3) (it C.epoch) (.slice x4 l4 y4))
                      have HB10 : Hid (Below w.heap.size w (World.setCell (World.setCell (World.setCell (World.setCell (World.setCell wr ⟨cb, 0, none⟩ (.slice x1 l1 y1)) ⟨cb, 1, none⟩ (.slice x2 l2 y2)) ⟨cb, 2, none⟩ (.slice x3 p y3)) ⟨cb, 3, none⟩ (it C.epoch)) ⟨cb, 4, none⟩ (.slice x4 l4 y4))) := Lib.hid (set5_below HW9.out HWN.out (.slice x1 l1 y1) (.slice x2 l2 y2) (.slice x3 p y3) (it C.epoch) (.slice x4 l4 y4))
                      have hkk1 := HKK.out
                      go_wp2
                      go_roundw
                      case rel => exact ⟨k + 1, ancC C D, _, _, _, _, hkk1.1, hkk1.2, by go_num, HC10.out, HO10.out, HOKD.out, HB10.out⟩
                      case measure => simp [intOf]; omega
                · go_upto_region 22 with fail
                  go_loopw [13, 14] (fun fv j wz => ∃ p : Nat, p ≤ l3 ∧ fv = .string (fnd ⟨nt, tt⟩ (D.take p)) ∧ j = it (p : Int) ∧ Below wq.heap.size wq wz) (fun _ j _ => l3 - (intOf j).toNat)
                  case atStart => exact ⟨0, Nat.zero_le _, rfl, rfl, Below.refl _ _⟩
                  case round =>
                    obtain ⟨p, hp, rfl, rfl, hbz⟩ := hrel
                    have HBZ := Lib.hid hbz
                    clear hbz
                    obtain ⟨fb, hfb⟩ : ∃ fb, fb = fnd ⟨nt, tt⟩ (D.take p) := ⟨_, rfl⟩
                    rw [← hfb]
                    have HFB := Lib.hid hfb
                    clear e0 e1 e2 e3 e4
                    by_cases hql : p < l3
                    · obtain ⟨⟨xn, xt⟩, hx⟩ : ∃ x, D[p]? = some x := ⟨_, List.getElem?_eq_getElem (by rw [← HL3.out]; exact hql)⟩
                      have HX := Lib.hid hx
                      obtain ⟨g2, o2, rfl, hg2, c0, c1⟩ := at2 (show RdX elA wq (.slice x3 l3 y3) D from HO7.out.a.rd) rfl hx rfl
                      have c0 : wr.cell? ⟨g2, o2 + p * 2, none⟩ = some (.string xn) := (HBZ.out.cell (p := ⟨g2, o2 + p * 2, none⟩) hg2).trans c0
                      obtain ⟨e0, e1, e2, e3, e4⟩ := c5 (HD7.out.below HBZ.out)
                      obtain ⟨d0, d1⟩ := c2 (HA7.out.below HBZ.out)
                      have HSM := Lib.hid (rsame_any xn nt (HOKD.out.ok.an _ (List.mem_of_getElem? hx)) (by omega) wr.drew)
                      obtain ⟨sm, hsm⟩ : ∃ sm, sm = sam (bl xn) (bl nt) := ⟨_, rfl⟩
                      have HSE : Hid (isA ⟨nt, tt⟩ ⟨xn, xt⟩ = sm) := Lib.hid hsm.symm
                      rw [← hsm] at HSM
                      have p1 : (p : Int) < (l3 : Int) := by omega
                      have p2 : decide ((p : Int) < (l3 : Int)) = true := decide_eq_true p1
                      have HQ : Hid (p + 1 ≤ l3) := Lib.hid hql
                      have hz1 : xt.size ≤ 60 := HOKD.out.t _ (List.mem_of_getElem? hx)
                      have hz2 : fb.size ≤ 960 := by
                        have h1 := fnd_size (t := ⟨nt, tt⟩) (L := D.take p) (fun x hx => HOKD.out.t x (List.mem_of_mem_take hx))
                        rw [← hfb, List.length_take] at h1
                        omega
                      have hadd : ∀ w, (Op.stringOp .add fb xt).run Try.prog w = .ok (.string (fb ++ xt)) w := fun w => run_string_add_sum w fb xt (by omega)
                      have HNX : Hid (fnd ⟨nt, tt⟩ (D.take (p + 1)) = if sm then fb ++ xt else fb) := Lib.hid (by rw [fnd_snoc HX.out, HSE.out, ← HFB.out])
                      have hcw : ∀ w9, Below wr.heap.size wr w9 → w9.cell? ⟨g2, o2 + p * 2 + 1, none⟩ = some (.string xt) := fun w9 h9 => (h9.cell (p := ⟨g2, o2 + p * 2 + 1, none⟩) (Nat.lt_of_lt_of_le hg2 HBZ.out.size)).trans ((HBZ.out.cell (p := ⟨g2, o2 + p * 2 + 1, none⟩) hg2).trans c1)
                      have HCW := Lib.hid hcw
                      clear hx hsm c1 hcw hfb
                      go_upto_region 24 with fail
                      go_still_tail 8, (by kernel_rfl)
                      change wpList _ _ _ _ _ wr.drew
                      go_wp2_with fail
                      refine HSM.out.mono ?_
                      rintro e w9 ⟨rfl, hb9⟩
                      have HBR : Hid (Below wr.heap.size wr w9) := Lib.hid ((Below.refl _ wr).drew.trans hb9)
                      have HB9 : Hid (Below wq.heap.size wq w9) := Lib.hid (HBZ.out.trans (HBR.out.mono HBZ.out.size))
                      clear hb9 c0 e0 e1 e2 e3 e4 d0 d1
                      cases sm
                      · clear hadd
                        go_wp2
                        go_roundw
                        case rel => exact ⟨p + 1, HQ.out, by rw [HNX.out]; rfl, by go_num, HB9.out⟩
                        case measure => simp [intOf]; omega
                      · have c1 := HCW.out _ HBR.out
                        obtain ⟨e0, e1, e2, e3, e4⟩ := c5 (HD7.out.below HB9.out)
                        go_wp2
                        go_roundw
                        case rel => exact ⟨p + 1, HQ.out, by rw [HNX.out]; rfl, by go_num, HB9.out⟩
                        case measure => simp [intOf]; omega
                    · obtain rfl : p = l3 := by omega
                      have hfa : fb = fnd ⟨nt, tt⟩ D := by rw [hfb, List.take_of_length_le (by have := HL3.out; omega)]
                      clear hfb HFB
                      have p6 : decide ((p : Int) < (p : Int)) = false := decide_eq_false (by omega)
                      clear hfa
                      have HD9 := Lib.hid (HD7.out.below HBZ.out)
                      have HC9 := Lib.hid (HC7.out.below HBZ.out)
                      have HO9 := Lib.hid (HO7.out.below HBZ.out)
                      have HW9 := Lib.hid (HW7.out.trans (HBZ.out.mono HW7.out.size))
                      obtain ⟨e0, e1, e2, e3, e4⟩ := c5 HD9.out
                      obtain ⟨d0, d1⟩ := c2 (HA7.out.below HBZ.out)
                      obtain ⟨f0, f1, f2, f3, f4⟩ := f5 HC9.out
                      obtain ⟨h0, h1, h2, h3, h4⟩ := c5 HC9.out
                      go_upto_region 29 with fail
                      have HC10 : Hid (Ce (World.setCell (World.setCell (World.setCell (World.setCell (World.setCell wr ⟨cb, 0, none⟩ (.slice x1 l1 y1)) ⟨cb, 1, none⟩ (.slice x2 l2 y2)) ⟨cb, 2, none⟩ (.slice x3 p y3)) ⟨cb, 3, none⟩ (it C.epoch)) ⟨cb, 4, none⟩ (.slice x4 l4 y4)) cb 29 #[.slice x1 l1 y1, .slice x2 l2 y2, .slice x3 p y3, it C.epoch, .slice x4 l4 y4]) := Lib.hid (set5_ce HC9.out (.slice x1 l1 y1) (.slice x2 l2 y2) (.slice x3 p y3) (it C.epoch) (.slice x4 l4 y4))
                      have HO10 : Hid (OwnC (World.setCell (World.setCell (World.setCell (World.setCell (World.setCell wr ⟨cb, 0, none⟩ (.slice x1 l1 y1)) ⟨cb, 1, none⟩ (.slice x2 l2 y2)) ⟨cb, 2, none⟩ (.slice x3 p y3)) ⟨cb, 3, none⟩ (it C.epoch)) ⟨cb, 4, none⟩ (.slice x4 l4 y4)) 0 (.slice x1 l1 y1) (.slice x2 l2 y2) (.slice x3 p y3) (.slice x4 l4 y4) (ancC C D)) := Lib.hid (HO9.out.set5 HC9.out (.slice x1 l1 y1) (.slice x2 l2 y2) (.slice x3 p y3) (it C.epoch) (.slice x4 l4 y4))
                      have HB10 : Hid (Below w.heap.size w (World.setCell (World.setCell (World.setCell (World.setCell (World.setCell wr ⟨cb, 0, none⟩ (.slice x1 l1 y1)) ⟨cb, 1, none⟩ (.slice x2 l2 y2)) ⟨cb, 2, none⟩ (.slice x3 p y3)) ⟨cb, 3, none⟩ (it C.epoch)) ⟨cb, 4, none⟩ (.slice x4 l4 y4))) := Lib.hid (set5_below HW9.out HWN.out (.slice x1 l1 y1) (.slice x2 l2 y2) (.slice x3 p y3) (it C.epoch) (.slice x4 l4 y4))
                      have hkk1 := HKK.out
                      go_wp2
                      go_roundw
                      case rel => exact ⟨k + 1, ancC C D, _, _, _, _, hkk1.1, hkk1.2, by go_num, HC10.out, HO10.out, HOKD.out, HB10.out⟩
                      case measure => simp [intOf]; omega
        · have HAP := Lib.hid (apply_anchor_no (t := ⟨nt, tt⟩) HR1.out.rd HOK.out.ok hzc (by show nt.size ≤ _; omega))
          obtain ⟨e0, e1, e2, e3, e4⟩ := c5 HC1.out
          obtain ⟨d0, d1⟩ := c2 HAB.out
          have q4 : (chk nt.data.toList == 0) = false := by simpa using hzc
          have q5 : (chk nt.data.toList != 0) = true := by simpa using hzc
          have HQ4 := Lib.hid q4
          have HQ5 := Lib.hid q5
          clear hzc q4 q5
          go_wp2_with fail
          refine HAP.out.mono ?_
          rintro e w5 ⟨r5, h5, a5, f5, rfl, ho5, hb5⟩
          obtain ⟨⟨x1, y1, rfl⟩, ⟨x2, y2, rfl⟩, ⟨x3, y3, rfl⟩, ⟨x4, y4, rfl⟩⟩ := ho5.rd.shape
          generalize C.ring.length = l1
          generalize C.hints.length = l2
          generalize C.anchors.length = l3
          generalize C.flushes.length = l4
          have hbn := one_new w5 (.cells #[.slice x1 l1 y1, .slice x2 l2 y2, .slice x3 l3 y3, it C.epoch, .slice x4 l4 y4] 29)
          have hB5 : Below wc.heap.size wc (w5.alloc (.cells #[.slice x1 l1 y1, .slice x2 l2 y2, .slice x3 l3 y3, it C.epoch, .slice x4 l4 y4] 29)) := hb5.trans (hbn.mono hb5.size)
          have HC5 := Lib.hid (HC1.out.below hB5)
          have HR5 := Lib.hid (HR1.out.below hB5)
          have HA5 := Lib.hid (HAB.out.below hB5)
          have HW5 := Lib.hid (HBC.out.trans (hB5.mono HBC.out.size))
          have hkk : k + 1 ≤ len ∧ k + 1 ≤ 60 := HKK.out
          clear ho5 hb5 hbn hB5 e0 e1 e2 e3 e4 d0 d1 HAP HC1 HR1 HAB HBC
          go_upto_region 8 with fail
          generalize w5.alloc _ = w6 at *
          obtain ⟨d0, d1⟩ := c2 HA5.out
          go_wp2_with fail
          refine (rcheck_any nt (by omega) w6).mono ?_
          rintro e w7 ⟨rfl, hb7⟩
          have HB7 := Lib.hid hb7
          have q4 := HQ4.out
          have q5 := HQ5.out
          clear hb7 d0 d1
          generalize chk nt.data.toList = cz at *
          go_wp2
          go_roundw
          case rel => exact ⟨k + 1, C, _, _, _, _, hkk.1, hkk.2, by go_num, HC5.out.below HB7.out, HR5.out.below HB7.out, HOK.out, HW5.out.trans (HB7.out.mono HW5.out.size)⟩
          case measure => simp [intOf]; omega
    · have HBF := Lib.hid hb
      clear hC hR hok hb
      by_cases hl1 : k < len
      · have hk60' : k = 60 := by omega
        subst hk60'
        have q1 : decide (((60 : Nat) : Int) < (len : Int)) = true := decide_eq_true (by omega)
        have q1' : ((60 : Int)) < (len : Int) := by omega
        have q3 : (60 : Nat) < len := hl1
        clear hlt
        go_wp2
        go_ret
        exact ⟨rfl, HBF.out⟩
      · have q1 : decide ((k : Int) < (len : Int)) = false := decide_eq_false (by omega)
        have q1' : decide (k < len) = false := decide_eq_false hl1
        clear hlt
        go_wp2
        go_ret
        exact ⟨rfl, HBF.out⟩
end Go.Proofs.Ytjoplnkagfkffaa
