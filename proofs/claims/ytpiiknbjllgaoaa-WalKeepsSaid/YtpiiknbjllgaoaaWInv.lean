/-
  What a log's file holds, as mathematics: through its changes, a crash, and its opening.
-/
import Derived.Test.YtpiiknbjllgaoaaWAwake
namespace Go.Proofs.Ytpiiknbjllgaoaa
open Go.RowKit
/-- The file holds these records, of which the first so many are durable. -/
structure LogOf (x : Ld) (A : List Bs) (f : Nat) : Prop where
  fit : Fit A
  le : f ≤ A.length
  lo : x.lo = some (rcsB A, (rcsB (A.take f)).length) ∨ (x.lo = none ∧ A = [])
/-- All that the file holds is durable; these records are read of it. -/
def Dur (x : Ld) (M : List Bs) : Prop := (∃ R, x.lo = some (R, R.length) ∧ recs R = M) ∨ (x.lo = none ∧ M = [])
def Calm (x : Ld) : Prop := x.off = false ∧ x.sch = false
theorem recs_fit (b : Bs) : Fit (recs b) := by obtain ⟨_, _, _, h⟩ := recs_split b; exact h
theorem byt_lo {x y : Ld} (h : x.lo = y.lo) : x.byt false = y.byt false := by
  unfold Ld.byt
  rw [show x.get false = x.lo from rfl, show y.get false = y.lo from rfl, h]
theorem dur_lo {x y : Ld} (h : x.lo = y.lo) : x.dur false = y.dur false := by
  unfold Ld.dur
  rw [show x.get false = x.lo from rfl, show y.get false = y.lo from rfl, h]
theorem LogOf.byt {x : Ld} {A : List Bs} {f : Nat} (h : LogOf x A f) : x.byt false = rcsB A := by
  unfold Ld.byt
  rw [show x.get false = x.lo from rfl]
  rcases h.lo with h1 | ⟨h1, rfl⟩ <;> rw [h1]
  rfl
theorem LogOf.dur {x : Ld} {A : List Bs} {f : Nat} (h : LogOf x A f) : x.dur false = (rcsB (A.take f)).length := by
  unfold Ld.dur
  rw [show x.get false = x.lo from rfl]
  rcases h.lo with h1 | ⟨h1, rfl⟩ <;> rw [h1]
  simp [rcsB]
theorem LogOf.same {x y : Ld} {A : List Bs} {f : Nat} (h : LogOf x A f) (e : y.lo = x.lo) : LogOf y A f := ⟨h.fit, h.le, by rw [e]; exact h.lo⟩
theorem Dur.recs {x : Ld} {M : List Bs} (h : Dur x M) : x.recs = M := by
  unfold Ld.recs Ld.byt
  rw [show x.get false = x.lo from rfl]
  rcases h with ⟨R, h1, h2⟩ | ⟨h1, rfl⟩ <;> rw [h1]
  · exact h2
  · rfl
theorem Dur.same {x y : Ld} {M : List Bs} (h : Dur x M) (e : y.lo = x.lo) : Dur y M := by unfold Dur; rw [e]; exact h
/-- A crash. -/
theorem LogOf.crash {x : Ld} {A : List Bs} {f : Nat} (h : LogOf x A f) (p q : List Int) : ∃ W, f ≤ W ∧ W ≤ A.length ∧ Dur (x.crash p q) (A.take W) := by
  rcases h.lo with h1 | ⟨h1, rfl⟩
  · have hle : (rcsB (A.take f)).length ≤ (rcsB A).length := by
      have e : rcsB A = rcsB (A.take f) ++ rcsB (A.drop f) := by rw [← rcs_append, List.take_append_drop]
      rw [e, List.length_append]; omega
    obtain ⟨d, hd⟩ : ∃ d, d = (rcsB (A.take f)).length := ⟨_, rfl⟩
    have hk := keepN_le (f := ⟨walN, rcsB A, d⟩) (by rw [hd]; exact hle) p
    have hlo : (x.crash p q).lo = some (crD ⟨walN, rcsB A, d⟩ p, (crD ⟨walN, rcsB A, d⟩ p).length) := by
      show crO x.lo p = _
      rw [h1, ← hd]; rfl
    obtain ⟨k, hkk⟩ : ∃ k, k = d + keepN ⟨walN, rcsB A, d⟩ p := ⟨_, rfl⟩
    have hkl : k ≤ (rcsB A).length := by rw [hkk]; exact hk
    by_cases hf : (decide (0 < keepN ⟨walN, rcsB A, d⟩ p) && odd (p.tail.headD 0)) = true
    · have hc : crD ⟨walN, rcsB A, d⟩ p = flip ((rcsB A).take k) := by
        unfold crD
        simp only
        rw [if_pos hf, ← hkk]
      have h0 : 0 < keepN ⟨walN, rcsB A, d⟩ p := by simp at hf; exact hf.1
      refine ⟨wh A (k - 1), wh_firm A f h.le (by rw [← hd]; omega), wh_le _ _, .inl ⟨_, hlo, ?_⟩⟩
      rw [hc]
      exact torn A h.fit k (by omega) hkl
    · have hc : crD ⟨walN, rcsB A, d⟩ p = (rcsB A).take k := by
        unfold crD
        simp only
        rw [if_neg hf, ← hkk]
      refine ⟨wh A k, wh_firm A f h.le (by rw [← hd]; omega), wh_le _ _, .inl ⟨_, hlo, ?_⟩⟩
      rw [hc]
      exact cuts A h.fit k hkl
  · have : f = 0 := by have := h.le; simpa using this
    subst this
    exact ⟨0, Nat.le_refl _, Nat.le_refl _, .inr ⟨by show crO x.lo p = none; rw [h1]; rfl, rfl⟩⟩
theorem crD_full (a : ByteArray) (R : Bs) (ps : List Int) : crD ⟨a, R, R.length⟩ ps = R := by
  have h : keepN ⟨a, R, R.length⟩ ps = 0 := by
    unfold keepN idx
    simp only [Nat.sub_self, Nat.zero_add, Nat.mod_one]
  unfold crD
  simp only [h]
  simp
theorem Dur.crash {x : Ld} {M : List Bs} (h : Dur x M) (p q : List Int) : Dur (x.crash p q) M := by
  rcases h with ⟨R, h1, h2⟩ | ⟨h1, h2⟩
  · refine .inl ⟨R, ?_, h2⟩
    show crO x.lo p = _
    rw [h1]
    show some (crD ⟨walN, R, R.length⟩ p, (crD ⟨walN, R, R.length⟩ p).length) = _
    rw [crD_full]
  · exact .inr ⟨by show crO x.lo p = none; rw [h1]; rfl, h2⟩
/-- An opening. -/
theorem af_lo (x : Ld) (e : Int) : (x.af e).lo = x.lo := by
  unfold Ld.af
  split
  · rfl
  · split
    · rfl
    · split <;> rfl
theorem cu_dur {x : Ld} {M : List Bs} (h : Dur x M) (hs : x.lo.isSome = true) : Dur (x.cu (rcsB M).length) M ∧ (x.cuE (rcsB M).length = 0 → (x.cu (rcsB M).length).lo = some (rcsB M, (rcsB M).length)) := by
  rcases h with ⟨R, h1, rfl⟩ | ⟨h1, _⟩
  · have hb : x.byt false = R := by unfold Ld.byt; rw [show x.get false = x.lo from rfl, h1]
    have hd : x.dur false = R.length := by unfold Ld.dur; rw [show x.get false = x.lo from rfl, h1]
    obtain ⟨r, e1, e2, _⟩ := recs_split R
    have ht := rcs_take R
    have hle := rcs_len R
    unfold Ld.cu Ld.cuE
    rw [hb]
    by_cases he : (rcsB (recs R)).length = R.length
    · have hR : rcsB (recs R) = R := by rw [← ht, he, List.take_length]
      rw [if_pos he, if_pos he]
      exact ⟨.inl ⟨R, h1, rfl⟩, fun _ => by rw [h1, hR]⟩
    · rw [if_neg he, if_neg he]
      unfold Ld.cut
      by_cases h0 : x.E 0 = 0
      · rw [if_pos h0, hb, hd, ht]
        have hm : min R.length (rcsB (recs R)).length = (rcsB (recs R)).length := Nat.min_eq_right hle
        rw [hm]
        exact ⟨.inl ⟨rcsB (recs R), rfl, recs_rcs _ (recs_fit R)⟩, fun _ => rfl⟩
      · rw [if_neg h0]
        exact ⟨.inl ⟨R, by rw [af_lo]; exact h1, rfl⟩, fun h => absurd h h0⟩
  · rw [h1] at hs; cases hs
theorem syn_dur {x : Ld} {M : List Bs} (h : Dur x M) : Dur (x.syn false) M := by
  unfold Ld.syn
  split
  · rename_i h0
    obtain ⟨p, hp⟩ := get_has h0
    rcases h with ⟨R, h1, h2⟩ | ⟨h1, _⟩
    · have hb : x.byt false = R := by unfold Ld.byt; rw [show x.get false = x.lo from rfl, h1]
      exact .inl ⟨R, by rw [hb]; rfl, h2⟩
    · rw [show x.get false = x.lo from rfl, h1] at hp; cases hp
  · exact h.same (af_lo _ _)
theorem syn_lo {x : Ld} {R : Bs} {t : Nat} (h : x.lo = some (R, t)) (h0 : x.E (x.has false) = 0) : (x.syn false).lo = some (R, R.length) := by
  unfold Ld.syn
  rw [if_pos h0]
  have hb : x.byt false = R := by unfold Ld.byt; rw [show x.get false = x.lo from rfl, h]
  rw [hb]; rfl
theorem open_dur {x : Ld} {M : List Bs} (h : Dur x M) : Dur x.opX M ∧ (x.opE = 0 → LogOf x.opX M M.length) := by
  have hr := h.recs
  have hfM : Fit M := by rw [← hr]; exact recs_fit _
  have hd : Dur x.dis M := h.same (dis_lo x)
  unfold Ld.opX Ld.opE
  cases hs : x.lo.isSome with
  | false =>
    have hn : x.lo = none := by cases h1 : x.lo with | none => rfl | some p => rw [h1] at hs; cases hs
    have hM : M = [] := by
      rcases h with ⟨R, h1, _⟩ | ⟨_, h2⟩
      · rw [hn] at h1; cases h1
      · exact h2
    subst hM
    simp only [Bool.false_eq_true, if_false]
    exact ⟨hd, fun _ => ⟨hfM, Nat.le_refl _, .inr ⟨by rw [dis_lo]; exact hn, rfl⟩⟩⟩
  | true =>
    simp only [if_true]
    have hg : x.good = (rcsB M).length := by unfold Ld.good; rw [hr]
    have hs' : x.dis.lo.isSome = true := by rw [dis_lo]; exact hs
    obtain ⟨c1, c2⟩ := cu_dur hd hs'
    have s1 := syn_dur c1
    by_cases h0 : opK x 0 = 0
    · by_cases h2 : opK x 2 = 0
      · have e1 : opX4 x = opS x 4 := by unfold opX4; simp [h0, h2]
        have e2 : opE4 x = opK x 3 := by unfold opE4; simp [h0, h2]
        rw [e1, e2]
        have e3 : opS x 4 = (x.dis.cu (rcsB M).length).syn false := by rw [← hg]; rfl
        rw [e3]
        refine ⟨s1, fun h3 => ⟨hfM, Nat.le_refl _, .inl ?_⟩⟩
        have h2' : x.dis.cuE (rcsB M).length = 0 := by rw [← hg]; exact h2
        have h3' : (x.dis.cu (rcsB M).length).E ((x.dis.cu (rcsB M).length).has false) = 0 := by rw [← hg]; exact h3
        rw [syn_lo (c2 h2') h3', List.take_length]
      · have e1 : opX4 x = opS x 3 := by unfold opX4; simp [h0, h2]
        have e2 : opE4 x = opK x 2 := by unfold opE4; simp [h0, h2]
        rw [e1, e2]
        have e3 : opS x 3 = x.dis.cu (rcsB M).length := by rw [← hg]; rfl
        rw [e3]
        exact ⟨c1, fun h => absurd h h2⟩
    · have e1 : opX4 x = opS x 1 := by unfold opX4; simp [h0]
      have e2 : opE4 x = opK x 0 := by unfold opE4; simp [h0]
      rw [e1, e2]
      exact ⟨hd, fun h => absurd h h0⟩
/-- An append. -/
theorem app_log {x : Ld} {A L : List Bs} {f : Nat} (h : LogOf x A f) (hL : Fit L) : (apE x L = 0 → LogOf (apX x L) (A ++ L) f) ∧ (apE x L ≠ 0 → (apX x L).lo = x.lo) := by
  unfold apE apX
  by_cases hn : L = []
  · subst hn
    simp only [if_true, List.append_nil]
    exact ⟨fun _ => h, fun h => absurd rfl h⟩
  · rw [if_neg hn, if_neg hn]
    unfold Ld.app
    refine ⟨fun h0 => ?_, fun h0 => by rw [if_neg h0]; exact af_lo _ _⟩
    rw [if_pos h0, h.byt, h.dur]
    have hle := h.le
    refine ⟨h.fit.append hL, by rw [List.length_append]; omega, .inl ?_⟩
    rw [rcs_append, List.take_append_of_le_length hle]
    rfl
/-- A sync. -/
theorem sync_log' {x : Ld} {A : List Bs} {f c : Nat} (h : LogOf x A f) (hc : c = A.length) : (syE x c f = 0 → LogOf (syX x c f) A A.length) ∧ (syE x c f ≠ 0 → (syX x c f).lo = x.lo) := by
  unfold syE syX
  by_cases hn : f = c
  · rw [if_pos hn, if_pos hn]
    exact ⟨fun _ => by rw [← hc, ← hn]; exact h, fun h => absurd rfl h⟩
  · rw [if_neg hn, if_neg hn]
    refine ⟨fun h0 => ⟨h.fit, Nat.le_refl _, ?_⟩, fun h0 => by unfold Ld.syn; rw [if_neg h0]; exact af_lo _ _⟩
    obtain ⟨p, hp⟩ := get_has h0
    rcases h.lo with h1 | ⟨h1, _⟩
    · exact .inl (by rw [syn_lo h1 h0, List.take_length])
    · rw [show x.get false = x.lo from rfl, h1] at hp; cases hp
/-- Written anew. -/
theorem rewrite_log' {x : Ld} {A L : List Bs} {f : Nat} (_ : LogOf x A f) (hL : Fit L) : (rwE x (rcsB L) = 0 → LogOf (rwX x (rcsB L)) L L.length) ∧ (rwE x (rcsB L) ≠ 0 → (rwX x (rcsB L)).lo = x.lo) := by
  have a1 : (rwS x (rcsB L) 1).lo = x.lo := dis_lo x
  have a2 : (rwS x (rcsB L) 2).lo = x.lo := by
    show (x.dis.app true (rcsB L)).lo = _
    unfold Ld.app
    split
    · exact a1
    · rw [af_lo]; exact a1
  have a3 : (rwS x (rcsB L) 3).lo = x.lo := by
    show ((x.dis.app true (rcsB L)).syn true).lo = _
    unfold Ld.syn
    split
    · exact a2
    · rw [af_lo]; exact a2
  have a4 : rwK x (rcsB L) 3 ≠ 0 → (rwS x (rcsB L) 4).lo = x.lo := by
    intro h0
    show (((x.dis.app true (rcsB L)).syn true).ren).lo = _
    have h0' : ¬ ((x.dis.app true (rcsB L)).syn true).E (((x.dis.app true (rcsB L)).syn true).has true) = 0 := h0
    unfold Ld.ren
    rw [if_neg h0', af_lo]; exact a3
  unfold rwE rwX
  by_cases h0 : rwK x (rcsB L) 0 = 0
  · by_cases h1 : rwK x (rcsB L) 1 = 0
    · by_cases h2 : rwK x (rcsB L) 2 = 0
      · simp only [h0, h1, h2, ne_eq, not_true_eq_false, if_false]
        refine ⟨fun h3 => ⟨hL, Nat.le_refl _, .inl ?_⟩, a4⟩
        show (((x.dis.app true (rcsB L)).syn true).ren).lo = _
        have n1 : x.dis.nw = none := by
          unfold Ld.dis
          cases hn : x.nw with
          | none => simp [hn]
          | some p =>
            simp only [Option.isSome_some, if_true]
            have h0' : x.E (x.has true) = 0 := by
              have : x.disE = x.E (x.has true) := by unfold Ld.disE; rw [hn]; rfl
              rw [← this]; exact h0
            unfold Ld.rem
            rw [if_pos h0']; rfl
        have n2 : (x.dis.app true (rcsB L)).nw = some (rcsB L, 0) := by
          have h1' : x.dis.E (x.dis.fit (rcsB L).length) = 0 := h1
          unfold Ld.app
          rw [if_pos h1']
          show some (x.dis.byt true ++ rcsB L, x.dis.dur true) = _
          have b1 : x.dis.byt true = [] := by unfold Ld.byt; rw [show x.dis.get true = x.dis.nw from rfl, n1]
          have b2 : x.dis.dur true = 0 := by unfold Ld.dur; rw [show x.dis.get true = x.dis.nw from rfl, n1]
          rw [b1, b2]; rfl
        have n3 : ((x.dis.app true (rcsB L)).syn true).nw = some (rcsB L, (rcsB L).length) := by
          unfold Ld.syn
          have h2' : (x.dis.app true (rcsB L)).E ((x.dis.app true (rcsB L)).has true) = 0 := h2
          rw [if_pos h2']
          show some ((x.dis.app true (rcsB L)).byt true, ((x.dis.app true (rcsB L)).byt true).length) = _
          have b1 : (x.dis.app true (rcsB L)).byt true = rcsB L := by unfold Ld.byt; rw [show (x.dis.app true (rcsB L)).get true = (x.dis.app true (rcsB L)).nw from rfl, n2]
          rw [b1]
        unfold Ld.ren
        have h3' : ((x.dis.app true (rcsB L)).syn true).E (((x.dis.app true (rcsB L)).syn true).has true) = 0 := h3
        rw [if_pos h3', List.take_length]
        exact n3
      · simp only [h0, h1, h2, ne_eq, not_true_eq_false, not_false_eq_true, if_false, if_true]
        exact ⟨fun h => h.elim, fun _ => a3⟩
    · simp only [h0, h1, ne_eq, not_true_eq_false, not_false_eq_true, if_false, if_true]
      exact ⟨fun h => h.elim, fun _ => a2⟩
  · simp only [h0, ne_eq, not_false_eq_true, if_true]
    exact ⟨fun h => h.elim, fun _ => a1⟩
end Go.Proofs.Ytpiiknbjllgaoaa
