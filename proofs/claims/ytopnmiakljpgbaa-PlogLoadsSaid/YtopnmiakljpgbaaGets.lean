/-
  What a log is asked: its entry at an index, its last index; the same of the document's functions.
-/
import Derived.Test.YtopnmiakljpgbaaRes
namespace Go.Proofs.Ytopnmiakljpgbaa
open Go.RowKit
section
variable {w : World} {base bt : Int} {a : Option Addr} {n cap : Nat} {L : List En}
theorem getD_at {L : List En} {k : Nat} (hk : k < L.length) : L[k]? = some (L.getD k En.zero) := by
  rw [List.getD_eq_getElem?_getD, List.getElem?_eq_getElem hk]; rfl
theorem get_any (h : RdE w (.slice a n cap) L) (hb : I64 base) {i : Int} (hi : I64 i) (hl : L.length ≤ 1000000000) :
    Calls Try.prog 15 #[lv base bt (.slice a n cap), it i] w fun e w' => e = .returned (.tuple #[((gtO base L i).getD En.zero).v, .bool (gtO base L i).isSome]) ∧ Below w.heap.size w w' := by
  have hn := h.len
  subst hn
  have HP := Lib.hid (fun w' => place_any hb hi bt a L.length cap (by omega) w')
  have H2 := Lib.hid (two_new w #[it base, it bt, .slice a L.length cap] #[it 0, it 0, .string ⟨#[]⟩] 24 31)
  obtain ⟨m, hm⟩ : ∃ m, m = L.length := ⟨_, rfl⟩
  have HR : Hid (RdE w (.slice a m cap) L) := Lib.hid (by rw [hm]; exact h)
  by_cases hin : base < i ∧ i ≤ base + L.length
  · obtain ⟨k, rfl⟩ : ∃ k : Nat, i = base + (k + 1 : Nat) := ⟨(i - base - 1).toNat, by omega⟩
    have hk : k < L.length := by omega
    have h2 : plc base L.length (base + (k + 1 : Nat)) = (k + 1 : Nat) := by unfold plc; rw [if_neg (by omega)]; omega
    rw [gtO_at base L k hk]
    obtain ⟨e, he⟩ : ∃ e, e = L.getD k En.zero := ⟨_, rfl⟩
    rw [← he]
    obtain ⟨_, g, o, rfl, hg, c0, c1, c2⟩ := h.at (getD_at hk)
    rw [← he] at c0 c1 c2
    rw [h2] at HP
    rw [← hm] at HP H2 hl hk ⊢
    have q1 : decide (((k + 1 : Nat) : Int) < 1) = false := by simp; omega
    have q2 : decide ((m : Int) < ((k + 1 : Nat) : Int)) = false := by simp; omega
    clear h h2 he hm hin
    go_enter Try.func15, Try.ntmps15
    go_wp2_with fail
    generalize (w.alloc _).alloc _ = wA at *
    refine (HP.out _).mono ?_
    rintro e w1 ⟨rfl, hb1⟩
    obtain ⟨a1, a2, a3, a4⟩ := H2.out
    have hB1 := a4.trans (hb1.mono a4.size)
    obtain ⟨b0, b1, b2⟩ := c3 (a1.below hb1)
    have HE := Lib.hid (a2.below hb1)
    obtain ⟨d0, d1, d2⟩ := c3 HE.out
    obtain ⟨f0, f1, f2⟩ := f3 HE.out
    have c0 := (hB1.cell (p := ⟨g, o + k * 3, none⟩) hg).trans c0
    have c1 := (hB1.cell (p := ⟨g, o + k * 3 + 1, none⟩) hg).trans c1
    have c2 := (hB1.cell (p := ⟨g, o + k * 3 + 2, none⟩) hg).trans c2
    have HB1 := Lib.hid hB1
    clear hb1 a1 a2 a3 a4 hB1
    go_wp2
    refine bodyPost_ret (resE rfl rfl (set3_ce HE.out _ _ _)) rfl ?_
    exact ⟨rfl, set3_below HB1.out (Nat.le_succ _) _ _ _⟩
  · obtain ⟨p, h2, hq⟩ : ∃ p : Int, plc base L.length i = p ∧ (p < 1 ∨ p = L.length + 1) := by
      rcases plc_cases base L.length i with ⟨h1, h2⟩ | ⟨h1, h2⟩ | ⟨p, h1, hp, h2⟩
      · exact ⟨_, h2, .inl (by omega)⟩
      · exact ⟨_, h2, .inr rfl⟩
      · exact ⟨_, h2, .inl (by omega)⟩
    rw [gtO_none (by omega)]
    rw [h2] at HP
    rw [← hm] at HP H2 hl hq ⊢
    have q : decide (p < 1) = true ∨ (decide (p < 1) = false ∧ decide ((m : Int) < p) = true) := by
      rcases hq with hq | hq
      · exact .inl (by simpa using hq)
      · exact .inr ⟨by simp; omega, by simp; omega⟩
    clear h h2 hm hin hq
    rcases q with q | ⟨q, q'⟩
    all_goals
      go_enter Try.func15, Try.ntmps15
      go_wp2_with fail
      generalize (w.alloc _).alloc _ = wA at *
      refine (HP.out _).mono ?_
      rintro e w1 ⟨rfl, hb1⟩
      obtain ⟨a1, a2, a3, a4⟩ := H2.out
      have hB1 := a4.trans (hb1.mono a4.size)
      obtain ⟨b0, b1, b2⟩ := c3 (a1.below hb1)
      have HE := Lib.hid (a2.below hb1)
      obtain ⟨d0, d1, d2⟩ := c3 HE.out
      obtain ⟨f0, f1, f2⟩ := f3 HE.out
      have HB1 := Lib.hid hB1
      clear hb1 a1 a2 a3 a4 hB1
      go_wp2
      refine bodyPost_ret (resE rfl rfl (set3_ce HE.out _ _ _)) rfl ?_
      exact ⟨rfl, set3_below HB1.out (Nat.le_succ _) _ _ _⟩
theorem last_any (hb : -1000 ≤ base ∧ base ≤ 1125899906842624) (hl : n ≤ 1000000000) (w : World) :
    Calls Try.prog 22 #[lv base bt (.slice a n cap)] w fun e w' => e = .returned (it (base + n)) ∧ Below w.heap.size w w' := by
  obtain ⟨hb1, hb2⟩ := hb
  go_enter Try.func22, Try.ntmps22
  go_wp2
  go_ret
  exact ⟨rfl, one_new _ _⟩
theorem rlast_any (hb : -1000 ≤ base ∧ base ≤ 1125899906842624) (hl : n ≤ 1000000000) (w : World) :
    Calls Try.prog 23 #[lv base bt (.slice a n cap)] w fun e w' => e = .returned (it (base + n)) ∧ Below w.heap.size w w' := by
  obtain ⟨hb1, hb2⟩ := hb
  go_enter Try.func23, Try.ntmps23
  go_wp2
  go_ret
  exact ⟨rfl, one_new _ _⟩
theorem rget_any (h : RdE w (.slice a n cap) L) (hb : -1000 ≤ base ∧ base ≤ 1125899906842624) {i : Int} (hi : I64 i) (hl : L.length ≤ 1000000000) :
    Calls Try.prog 16 #[lv base bt (.slice a n cap), it i] w fun e w' => e = .returned (.tuple #[((gtO base L i).getD En.zero).v, .bool (gtO base L i).isSome]) ∧ Below w.heap.size w w' := by
  have hn := h.len
  subst hn
  have HP := Lib.hid (fun w' => rlast_any (base := base) (bt := bt) (a := a) (n := L.length) (cap := cap) hb (by omega) w')
  have H2 := Lib.hid (two_new w #[it base, it bt, .slice a L.length cap] #[it 0, it 0, .string ⟨#[]⟩] 24 31)
  obtain ⟨m, hm⟩ : ∃ m, m = L.length := ⟨_, rfl⟩
  obtain ⟨hb1, hb2⟩ := hb
  by_cases hin : base < i ∧ i ≤ base + L.length
  · obtain ⟨k, rfl⟩ : ∃ k : Nat, i = base + (k + 1 : Nat) := ⟨(i - base - 1).toNat, by omega⟩
    have hk : k < L.length := by omega
    rw [gtO_at base L k hk]
    obtain ⟨e, he⟩ : ∃ e, e = L.getD k En.zero := ⟨_, rfl⟩
    rw [← he]
    obtain ⟨_, g, o, rfl, hg, c0, c1, c2⟩ := h.at (getD_at hk)
    rw [← he] at c0 c1 c2
    rw [← hm] at HP H2 hl hk ⊢
    obtain ⟨x, hx⟩ : ∃ x : Int, x = base + (k + 1 : Nat) := ⟨_, rfl⟩
    rw [← hx]
    have q1 : decide (x ≤ base) = false := by simp; omega
    have q2 : decide (base + (m : Int) < x) = false := by simp; omega
    have q3 : x - base = (k : Int) + 1 := by omega
    have HX := Lib.hid hx
    clear h he hm hin hi hx
    go_enter Try.func16, Try.ntmps16
    go_wp2_with fail
    generalize (w.alloc _).alloc _ = wA at *
    refine (HP.out _).mono ?_
    rintro e w1 ⟨rfl, hb1⟩
    obtain ⟨a1, a2, a3, a4⟩ := H2.out
    have hB1 := a4.trans (hb1.mono a4.size)
    obtain ⟨b0, b1, b2⟩ := c3 (a1.below hb1)
    have HE := Lib.hid (a2.below hb1)
    obtain ⟨d0, d1, d2⟩ := c3 HE.out
    obtain ⟨f0, f1, f2⟩ := f3 HE.out
    have c0 := (hB1.cell (p := ⟨g, o + k * 3, none⟩) hg).trans c0
    have c1 := (hB1.cell (p := ⟨g, o + k * 3 + 1, none⟩) hg).trans c1
    have c2 := (hB1.cell (p := ⟨g, o + k * 3 + 2, none⟩) hg).trans c2
    have HB1 := Lib.hid hB1
    clear hb1 a1 a2 a3 a4 hB1
    go_wp2
    refine bodyPost_ret (resE rfl rfl (set3_ce HE.out _ _ _)) rfl ?_
    exact ⟨rfl, set3_below HB1.out (Nat.le_succ _) _ _ _⟩
  · rw [gtO_none (by omega)]
    rw [← hm] at HP H2 hl hin ⊢
    have q : decide (i ≤ base) = true ∨ (decide (i ≤ base) = false ∧ decide (base + (m : Int) < i) = true) := by
      by_cases hq : i ≤ base
      · exact .inl (by simpa using hq)
      · exact .inr ⟨by simpa using hq, by simp; omega⟩
    clear h hm hin
    rcases q with q | ⟨q, q'⟩
    · go_enter Try.func16, Try.ntmps16
      go_wp2_with fail
      obtain ⟨a1, a2, a3, a4⟩ := H2.out
      have HB1 := Lib.hid a4
      have HE := Lib.hid a2
      clear a1 a2 a3 a4
      generalize (w.alloc _).alloc _ = wA at *
      refine bodyPost_ret (resE rfl rfl HE.out) rfl ?_
      exact ⟨rfl, HB1.out⟩
    · go_enter Try.func16, Try.ntmps16
      go_wp2_with fail
      generalize (w.alloc _).alloc _ = wA at *
      refine (HP.out _).mono ?_
      rintro e w1 ⟨rfl, hb1⟩
      obtain ⟨a1, a2, a3, a4⟩ := H2.out
      have hB1 := a4.trans (hb1.mono a4.size)
      obtain ⟨b0, b1, b2⟩ := c3 (a1.below hb1)
      have HE := Lib.hid (a2.below hb1)
      obtain ⟨d0, d1, d2⟩ := c3 HE.out
      obtain ⟨f0, f1, f2⟩ := f3 HE.out
      have HB1 := Lib.hid hB1
      clear hb1 a1 a2 a3 a4 hB1
      go_wp2
      refine bodyPost_ret (resE rfl rfl (set3_ce HE.out _ _ _)) rfl ?_
      exact ⟨rfl, set3_below HB1.out (Nat.le_succ _) _ _ _⟩
theorem rterm_any (h : RdE w (.slice a n cap) L) (hb : -1000 ≤ base ∧ base ≤ 1125899906842624) {i : Int} (hi : I64 i) (hl : L.length ≤ 1000000000) :
    Calls Try.prog 14 #[lv base bt (.slice a n cap), it i] w fun e w' => e = .returned (.tuple #[it ((tmO base bt L i).getD 0), .bool (tmO base bt L i).isSome]) ∧ Below w.heap.size w w' := by
  have hn := h.len
  subst hn
  have H1 := Lib.hid (lb_new w base bt (.slice a L.length cap))
  have HW := Lib.hid (one_new w (.cells #[it base, it bt, .slice a L.length cap] 24))
  have HG := Lib.hid (fun w' (hw : Below w.heap.size w w') => rget_any (base := base) (bt := bt) (h.below hw) hb hi hl)
  unfold tmO
  obtain ⟨m, hm⟩ : ∃ m, m = L.length := ⟨_, rfl⟩
  rw [← hm] at H1 HW HG ⊢
  clear hm h
  by_cases h0 : i = base
  · subst h0
    rw [if_pos rfl]
    go_enter Try.func14, Try.ntmps14
    go_wp2
    go_ret2
    exact ⟨rfl, one_new _ _⟩
  · rw [if_neg h0]
    have q : (i == base) = false := by simpa using h0
    obtain ⟨r, hr⟩ : ∃ r, r = gtO base L i := ⟨_, rfl⟩
    rw [← hr] at HG ⊢
    clear h0 hr
    go_enter Try.func14, Try.ntmps14
    go_wp2_with fail
    generalize w.alloc _ = wA at *
    refine (HG.out _ HW.out).mono ?_
    rintro e w1 ⟨rfl, hb1⟩
    have HB1 := Lib.hid (HW.out.trans (hb1.mono HW.out.size))
    obtain ⟨x, y, hx⟩ : ∃ (x : En) (y : Bool), x = r.getD En.zero ∧ y = r.isSome := ⟨_, _, rfl, rfl⟩
    rw [← hx.1, ← hx.2]
    have hz : (Option.map En.term r).getD 0 = x.term ∧ (Option.map En.term r).isSome = y := by
      obtain ⟨rfl, rfl⟩ := hx
      cases r <;> exact ⟨rfl, rfl⟩
    have HZ := Lib.hid hz
    clear hb1 hx hz
    go_wp2
    go_ret2
    exact ⟨by rw [HZ.out.1, HZ.out.2]; rfl, HB1.out.trans ((one_new _ _).mono HB1.out.size)⟩
end
end Go.Proofs.Ytopnmiakljpgbaa
