/-
  Whether all of it may be.
-/
import Derived.Test.YtopnmiakljpgbaaRight
namespace Go.Proofs.Ytopnmiakljpgbaa
open Go.RowKit
theorem idx_of {n : Int} (h : idx n = true) : 0 ≤ n ∧ n ≤ 1099511627776 := by
  unfold idx at h
  simpa using h
theorem chkL_of : ∀ (L : List En) (b : Int), chkL b L = true → ∀ e ∈ L, (0 ≤ e.term ∧ e.term ≤ 1099511627776) ∧ 0 ≤ e.kind ∧ e.kind ≤ 2
  | [], _, _, e, he => by cases he
  | x :: r, b, h, e, he => by
    have h' : (decide (b ≤ x.term) && enV x && chkL x.term r) = true := h
    simp only [Bool.and_eq_true, decide_eq_true_eq] at h'
    obtain ⟨⟨_, hx⟩, hr⟩ := h'
    rcases List.mem_cons.1 he with rfl | he
    · unfold enV at hx
      simp only [Bool.and_eq_true, decide_eq_true_eq] at hx
      obtain ⟨⟨h1, _⟩, h3⟩ := hx
      refine ⟨idx_of h1, ?_⟩
      split at h3
      · rename_i hk; omega
      · have := of_decide_eq_true h3
        omega
    · exact chkL_of r x.term hr e he
theorem may_of {X : Hd} (h : ldok X.S = true) (hV : vGood X.V) : X.May := by
  unfold ldok Hd.S at h
  simp only [Bool.and_eq_true] at h
  obtain ⟨⟨h1, h2⟩, h3⟩ := h
  unfold chk at h1
  simp only [Bool.and_eq_true] at h1
  obtain ⟨⟨⟨h4, h5⟩, _⟩, h6⟩ := h1
  exact ⟨idx_of h2, idx_of h3, idx_of h4, idx_of h5, hV, chkL_of _ _ h6⟩
set_option maxRecDepth 100000 in
set_option maxHeartbeats 6400000 in
theorem may_any {X : Hd} {w : World} (hX : X.Rd w) (hT : X.Tame) :
    Calls Try.prog 38 #[X.v] w fun e w' => ∃ b, e = .returned (.bool b) ∧ (b = true → ldok X.S = true ∧ vGood X.V) ∧ Below w.heap.size w w' := by
  obtain ⟨hV, hE⟩ := hX
  obtain ⟨t1, t2, t3, t4⟩ := hT
  have hn := hE.len
  obtain ⟨va, vc, hvs, _⟩ := hV.shape
  obtain ⟨t, vo, vs, sn, ba, bt, a, n, cap, V, L⟩ := X
  dsimp only [Hd.v, Hd.S] at *
  subst hn hvs
  have RG := Lib.hid (fun w' (hb : Below w.heap.size w w') => rright_any (hV.below hb) (by omega))
  have CK := Lib.hid (fun w' (hb : Below w.heap.size w w') => rcheck_any (base := ba) (bt := bt) (hE.below hb) (by omega) (fun e he => by have := t4 e he; omega))
  obtain ⟨ce, hce⟩ : ∃ ce, ce = chk ba bt L := ⟨_, rfl⟩
  have hchE : chE ba bt L = if ce = true then 0 else 1 := by rw [hce]; rfl
  rw [hchE] at CK
  have HLD : Hid (ldok ⟨t, vo, V, sn, ba, bt, L⟩ = (ce && idx t && idx vo)) := Lib.hid (by unfold ldok; rw [hce])
  have HIX : Hid (∀ n : Int, 0 ≤ n → n ≤ 1099511627776 → idx n = true) := Lib.hid (fun n h1 h2 => by unfold idx; simp [h1, h2])
  obtain ⟨z, hz⟩ : ∃ z, z = V.length := ⟨_, rfl⟩
  have HV0 : Hid (z = 0 → vGood V) := Lib.hid (fun h => by
    obtain rfl := List.eq_nil_of_length_eq_zero (by omega : V.length = 0)
    exact ⟨fun x hx => (by cases hx), fun i _ hi => absurd hi (Nat.not_lt_zero _)⟩)
  rw [← hz] at RG ⊢
  generalize L.length = m at *
  have HA := Lib.hid (Ce.new w 42 #[it t, it vo, .slice va z vc, .string sn, it ba, it bt, .slice a m cap])
  have HB := Lib.hid (one_new w (.cells #[it t, it vo, .slice va z vc, .string sn, it ba, it bt, .slice a m cap] 42))
  clear hV hE hce hchE hz t1 t2 t3 t4
  go_enter Try.func38, Try.ntmps38
  go_upto_region 1 with fail
  generalize w.alloc _ = wA at *
  obtain ⟨c0, c1, c2, c3', c4, c5, c6⟩ := c7 HA.out
  go_wp2_with fail
  refine (RG.out _ HB.out).mono ?_
  rintro e w2 ⟨b1, rfl, hg, hb⟩
  have HB2 := Lib.hid (HB.out.trans (hb.mono HB.out.size))
  have HC2 := Lib.hid (HA.out.below hb)
  have HG := Lib.hid hg
  clear hb hg c0 c1 c2 c3' c4 c5 c6
  obtain ⟨c0, c1, c2, c3', c4, c5, c6⟩ := c7 HC2.out
  go_wp2_with fail
  refine (CK.out _ HB2.out).mono ?_
  rintro e w3 ⟨rfl, hb⟩
  have HB3 := Lib.hid (HB2.out.trans (hb.mono HB2.out.size))
  have HC3 := Lib.hid (HC2.out.below hb)
  clear hb c0 c1 c2 c3' c4 c5 c6
  obtain ⟨c0, c1, c2, c3', c4, c5, c6⟩ := c7 HC3.out
  cases ce with
  | false =>
    rw [show (if false = true then (0 : Int) else 1) = 1 from rfl]
    go_wp2
    all_goals
      go_ret
      exact ⟨_, rfl, fun h => (by simp at h), HB3.out⟩
  | true =>
    rw [show (if true = true then (0 : Int) else 1) = 0 from rfl]
    obtain ⟨gv, hgv⟩ : ∃ gv : Bool, gv = (b1 || decide (z = 0)) := ⟨_, rfl⟩
    have HVG : Hid (gv = true → vGood V) := Lib.hid (fun h => by
      rw [hgv, Bool.or_eq_true] at h
      rcases h with h | h
      · exact (HG.out.1 h).1
      · exact HV0.out (of_decide_eq_true h))
    have fin : ∀ b : Bool, (b = true → gv = true ∧ 0 ≤ t ∧ t ≤ 1099511627776 ∧ 0 ≤ vo ∧ vo ≤ 1099511627776) → (b = true → ldok ⟨t, vo, V, sn, ba, bt, L⟩ = true ∧ vGood V) := fun b h hb => by
      obtain ⟨g1, g2, g3, g4, g5⟩ := h hb
      exact ⟨by rw [HLD.out, HIX.out t g2 g3, HIX.out vo g4 g5]; rfl, HVG.out g1⟩
    have FIN := Lib.hid fin
    have HGV := Lib.hid hgv
    clear fin hgv
    by_cases h1 : 0 ≤ t
    · by_cases h2 : t ≤ 1099511627776
      · by_cases h3 : 0 ≤ vo
        · by_cases h4 : vo ≤ 1099511627776
          · have H4 : Hid (0 ≤ t ∧ t ≤ 1099511627776 ∧ 0 ≤ vo ∧ vo ≤ 1099511627776) := Lib.hid ⟨h1, h2, h3, h4⟩
            cases b1 with
            | true =>
              go_wp2
              all_goals
                go_ret
                exact ⟨_, rfl, FIN.out _ (fun _ => ⟨HGV.out, H4.out⟩), HB3.out⟩
            | false =>
              by_cases hz0 : z = 0
              · have q1 : ((z : Int) == 0) = true := by rw [hz0]; rfl
                have HZ0 := Lib.hid hz0
                clear hz0
                go_wp2
                all_goals
                  go_ret
                  exact ⟨_, rfl, FIN.out _ (fun _ => ⟨by rw [HGV.out, HZ0.out]; rfl, H4.out⟩), HB3.out⟩
              · have q1 : ((z : Int) == 0) = false := by simp; omega
                go_wp2
                all_goals
                  go_ret
                  exact ⟨_, rfl, fun h => (by simp at h), HB3.out⟩
          · have q4 : decide (vo ≤ 1099511627776) = false := decide_eq_false h4
            go_wp2
            all_goals
              go_ret
              exact ⟨_, rfl, fun h => (by simp at h), HB3.out⟩
        · have q3 : decide (0 ≤ vo) = false := decide_eq_false h3
          go_wp2
          all_goals
            go_ret
            exact ⟨_, rfl, fun h => (by simp at h), HB3.out⟩
      · have q2 : decide (t ≤ 1099511627776) = false := decide_eq_false h2
        go_wp2
        all_goals
          go_ret
          exact ⟨_, rfl, fun h => (by simp at h), HB3.out⟩
    · have q1 : decide (0 ≤ t) = false := decide_eq_false h1
      go_wp2
      all_goals
        go_ret
        exact ⟨_, rfl, fun h => (by simp at h), HB3.out⟩
end Go.Proofs.Ytopnmiakljpgbaa
