/-
  The four operations of a log that is written anew.
-/
import Derived.Test.YtpiiknbjllgaoaaWSyn
namespace Go.Proofs.Ytpiiknbjllgaoaa
open Go.RowKit
/-- The disk behind so many of them, and what each one answers. -/
def rwS (x : Ld) (R : Bs) : Nat → Ld
  | 0 => x
  | 1 => x.dis
  | 2 => x.dis.app true R
  | 3 => (x.dis.app true R).syn true
  | _ => ((x.dis.app true R).syn true).ren
def rwK (x : Ld) (R : Bs) : Nat → Int
  | 0 => x.disE
  | 1 => x.dis.E (x.dis.fit R.length)
  | 2 => (x.dis.app true R).E ((x.dis.app true R).has true)
  | _ => ((x.dis.app true R).syn true).E (((x.dis.app true R).syn true).has true)
def rwE (x : Ld) (R : Bs) : Int := if rwK x R 0 ≠ 0 then rwK x R 0 else if rwK x R 1 ≠ 0 then rwK x R 1 else if rwK x R 2 ≠ 0 then rwK x R 2 else rwK x R 3
def rwX (x : Ld) (R : Bs) : Ld := if rwK x R 0 ≠ 0 then rwS x R 1 else if rwK x R 1 ≠ 0 then rwS x R 2 else if rwK x R 2 ≠ 0 then rwS x R 3 else rwS x R 4
theorem rw_stop (x : Ld) (R : Bs) (k : Nat) (hk : k < 4) (h : ∀ j, j < k → rwK x R j = 0) (hz : rwK x R k ≠ 0) : rwE x R = rwK x R k ∧ rwX x R = rwS x R (k + 1) := by
  unfold rwE rwX
  match k, hk with
  | 0, _ => simp [hz]
  | 1, _ => have h0 := h 0 (by omega); simp [h0, hz]
  | 2, _ => have h0 := h 0 (by omega); have h1 := h 1 (by omega); simp [h0, h1, hz]
  | 3, _ => have h0 := h 0 (by omega); have h1 := h 1 (by omega); have h2 := h 2 (by omega); simp [h0, h1, h2]
theorem rw_done (x : Ld) (R : Bs) (h : ∀ j, j < 4 → rwK x R j = 0) : rwE x R = 0 ∧ rwX x R = rwS x R 4 := by
  have h0 := h 0 (by omega); have h1 := h 1 (by omega); have h2 := h 2 (by omega); have h3 := h 3 (by omega)
  unfold rwE rwX
  simp [h0, h1, h2, h3]
theorem rw_ok {x : Ld} {R : Bs} {n m : Nat} (h : x.Okn (n + 4) (m + R.length)) : ∀ k, k ≤ 4 → (rwS x R k).Okn (n + (4 - k)) (if k ≤ 1 then m + R.length else m) := by
  intro k hk
  have h1 := dis_ok (n := n + 3) h
  have h2 := app_ok (n := n + 2) true R h1
  have h3 := syn_ok (n := n + 1) true h2
  have h4 := ren_ok (n := n) h3
  match k, hk with
  | 0, _ => exact h
  | 1, _ => exact h1
  | 2, _ => exact h2
  | 3, _ => exact h3
  | 4, _ => exact h4
section
variable {S : Nat → Prop} {b : Nat} {x : Ld} {w : World}
theorem turn4 (h : PD S b x.dk w) (R : Bs) (hR : R.length ≤ 1000000) (ok : x.Okn 4 R.length) (g A B1 B2 B3 C1 C2 D : Nat)
    (hg : ¬ S g) (hA : ¬ S A) (hB1 : ¬ S B1) (hB2 : ¬ S B2) (hB3 : ¬ S B3) (hC1 : ¬ S C1) (hC2 : ¬ S C2) (hD : ¬ S D)
    (cA : w.cell? ⟨A, 0, none⟩ = some (ptr b)) (cB1 : w.cell? ⟨B1, 0, none⟩ = some (ptr b)) (cB2 : w.cell? ⟨B2, 0, none⟩ = some (.string (nmOf true))) (cB3 : w.cell? ⟨B3, 0, none⟩ = some (str R))
    (cC1 : w.cell? ⟨C1, 0, none⟩ = some (ptr b)) (cC2 : w.cell? ⟨C2, 0, none⟩ = some (.string (nmOf true))) (cD : w.cell? ⟨D, 0, none⟩ = some (ptr b))
    (g0 : w.cell? ⟨g, 0, none⟩ = some (Tst.val ⟨63, #[], #[ptr A]⟩)) (g1 : w.cell? ⟨g, 1, none⟩ = some (Tst.val ⟨68, #[], #[ptr B1, ptr B2, ptr B3]⟩)) (g2 : w.cell? ⟨g, 2, none⟩ = some (Tst.val ⟨65, #[], #[ptr C1, ptr C2]⟩)) (g3 : w.cell? ⟨g, 3, none⟩ = some (Tst.val ⟨44, #[], #[ptr D]⟩)) :
    Calls Try.prog 41 #[.slice (some ⟨g, 0, none⟩) 4 4] w fun e w' => e = .returned (.int .i64 (rwE x R)) ∧ Lft S b (rwX x R).dk w w' := by
  have hok := rw_ok (n := 0) (m := 0) (x := x) (R := R) (by simpa using ok)
  have hRs : (⟨R.toArray⟩ : ByteArray).size = R.length := ba_size R
  refine (inTurn_any [⟨63, #[], #[ptr A]⟩, ⟨68, #[], #[ptr B1, ptr B2, ptr B3]⟩, ⟨65, #[], #[ptr C1, ptr C2]⟩, ⟨44, #[], #[ptr D]⟩] g 4 4 rfl (by decide) w
    (fun k w1 => Lft S b (rwS x R k).dk w w1 ∧ ∀ j, j < k → rwK x R j = 0) (fun z w1 => z = rwE x R ∧ Lft S b (rwX x R).dk w w1) ?_ ?_ ?_ ⟨⟨h.mono fun _ => .inl, Tr.refl _ _⟩, fun j hj => by omega⟩).mono ?_
  · intro k t w1 ht hK
    have mv : ∀ {i : Nat} {v : Value}, w.cell? ⟨g, i, none⟩ = some v → w1.cell? ⟨g, i, none⟩ = some v := fun hp => (hK.1.2.cell (p := ⟨g, _, none⟩) (w.block_lt_of_cell? _ hp) hg).trans hp
    match k, ht with
    | 0, ht => cases ht; exact mv g0
    | 1, ht => cases ht; exact mv g1
    | 2, ht => cases ht; exact mv g2
    | 3, ht => cases ht; exact mv g3
  · intro k t ht
    match k, ht with
    | 0, ht => cases ht; exact ent63
    | 1, ht => cases ht; exact ent68
    | 2, ht => cases ht; exact ent65
    | 3, ht => cases ht; exact ent44
  · intro k t w1 ht hK
    obtain ⟨⟨hp, htr⟩, hz⟩ := hK
    have mv : ∀ {q : Nat} {v : Value}, ¬ S q → w.cell? ⟨q, 0, none⟩ = some v → w1.cell? ⟨q, 0, none⟩ = some v := fun hq hp => (htr.cell (p := ⟨_, 0, none⟩) (w.block_lt_of_cell? _ hp) hq).trans hp
    have fin : ∀ {e : Ending} {w2 : World}, k < 4 → e = .returned (.int .i64 (rwK x R k)) → Lft (andNew S w.heap.size) b (rwS x R (k + 1)).dk w1 w2 →
        (e = .returned (.int .i64 0) ∧ (Lft S b (rwS x R (k + 1)).dk w w2 ∧ ∀ j, j < k + 1 → rwK x R j = 0)) ∨ ∃ z, z ≠ 0 ∧ e = .returned (.int .i64 z) ∧ (z = rwE x R ∧ Lft S b (rwX x R).dk w w2) := by
      intro e w2 hk4 he hl
      have hl2 : Lft S b (rwS x R (k + 1)).dk w w2 := Lft.trans ⟨hp, htr⟩ hl
      by_cases h0 : rwK x R k = 0
      · refine .inl ⟨by rw [he, h0], hl2, fun j hj => ?_⟩
        by_cases e : j = k
        · rw [e]; exact h0
        · exact hz j (by omega)
      · obtain ⟨e1, e2⟩ := rw_stop x R k hk4 hz h0
        exact .inr ⟨_, h0, he, e1.symm, by rw [e2]; exact hl2⟩
    match k, ht with
    | 0, ht =>
      cases ht
      exact (dis_any hp (hok 0 (by omega)).ok (mv hA cA)).mono fun e w2 hh => fin (by omega) hh.1 hh.2
    | 1, ht =>
      cases ht
      have := wri_any hp (hok 1 (by omega)).ok true ⟨R.toArray⟩ (by rw [hRs]; exact hR) (mv hB1 cB1) (mv hB2 cB2) (mv hB3 cB3)
      rw [hRs] at this
      exact this.mono fun e w2 hh => fin (by omega) hh.1 hh.2
    | 2, ht =>
      cases ht
      exact (syn_any hp (hok 2 (by omega)).ok true (mv hC1 cC1) (mv hC2 cC2)).mono fun e w2 hh => fin (by omega) hh.1 hh.2
    | 3, ht =>
      cases ht
      exact (ren_any hp (hok 3 (by omega)).ok (mv hD cD)).mono fun e w2 hh => fin (by omega) hh.1 hh.2
  · rintro e w' (⟨rfl, hK⟩ | ⟨z, _, rfl, rfl, hl⟩)
    · obtain ⟨e1, e2⟩ := rw_done x R (fun j hj => hK.2 j hj)
      rw [e1, e2]
      exact ⟨rfl, hK.1⟩
    · exact ⟨rfl, hl⟩
end
end Go.Proofs.Ytpiiknbjllgaoaa
