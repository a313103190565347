/-
  What Put leaves, for every record and packer; no other older memory is changed.
-/
import Derived.Test.YtflpceaaelampaaKeep
import Derived.Test.YtflpceaaelampaaCheckRec
import Derived.Test.YtflpceaaelampaaPatch
namespace Go.Proofs.Ytflpceaaelampaa
open Go.RowKit
def putD : Bs → Kn → List Part → Bs × Kn
  | B, L, [] => (B, L)
  | B, L, (true, n) :: ps => putD (pkB true B L n) (pkL true B L n) ps
  | B, L, (false, x) :: ps => putD (B ++ x) L ps
/-- The bytes ahead of the data's length. -/
def rpH (B : Bs) (L : Kn) (r : Rc) : Bs := pkB true B L r.n.data.toList ++ word r.t ++ word r.c ++ long r.l
def rpK (B : Bs) (L : Kn) (r : Rc) : Kn := pkL true B L r.n.data.toList
def rpD (B : Bs) (L : Kn) (r : Rc) : Bs × Kn := putD (rpH B L r ++ word 0) (rpK B L r) (pts r.t r.d.data.toList)
/-- What Put leaves of the bytes, and of what is known. -/
def rpB (B : Bs) (L : Kn) (r : Rc) : Bs := if rck r = 0 then ptB (rpD B L r).1 ((rpH B L r).length : Int) (((rpD B L r).1.length - ((rpH B L r).length + 2)) % 65536) else B
def rpL (B : Bs) (L : Kn) (r : Rc) : Kn := if rck r = 0 then (rpD B L r).2 else L
theorem pk_le {pts : Bool} {B : Bs} {L : Kn} {n : Bs} (hL : L.length ≤ B.length) : B.length ≤ (pkB pts B L n).length ∧ (pkB pts B L n).length ≤ B.length + n.length ∧ (pkL pts B L n).length ≤ (pkB pts B L n).length := by
  by_cases g : chk n = 0
  · have := pk_len (pts := pts) (B := B) (L := L) g; omega
  · unfold pkB pkL; rw [if_neg g, if_neg g]; omega
/-- What is so of bytes and of what is known, as parts are put. -/
structure Fit (B : Bs) (L : Kn) : Prop where
  l : L.length ≤ B.length
  k : OkK L
theorem Fit.app {B : Bs} {L : Kn} (h : Fit B L) (X : Bs) : Fit (B ++ X) L := ⟨by have := h.l; rw [List.length_append]; omega, h.k⟩
theorem Fit.name {B : Bs} {L : Kn} (h : Fit B L) (pts : Bool) (n : Bs) : Fit (pkB pts B L n) (pkL pts B L n) := ⟨(pk_le h.l).2.2, pk_ok h.k⟩
theorem putD_fit : ∀ (ps : List Part) (B : Bs) (L : Kn), Fit B L → Fit (putD B L ps).1 (putD B L ps).2 ∧ B.length ≤ (putD B L ps).1.length ∧ (putD B L ps).1.length ≤ B.length + (joinP ps).length := by
  intro ps
  induction ps with
  | nil => intro B L h; exact ⟨h, Nat.le_refl _, by simp [putD, joinP]⟩
  | cons p ps ih =>
    intro B L h
    obtain ⟨b, x⟩ := p
    have e : (joinP ((b, x) :: ps)).length = x.length + (joinP ps).length := by simp [joinP]
    rw [e]
    cases b with
    | true =>
      have h1 := ih _ _ (h.name true x)
      have h2 := pk_le (pts := true) (n := x) h.l
      simp only [putD]
      exact ⟨h1.1, by omega, by omega⟩
    | false =>
      have h1 := ih _ _ (h.app x)
      rw [List.length_append] at h1
      simp only [putD]
      exact ⟨h1.1, by omega, by omega⟩
theorem rck_zero {r : Rc} (h : rck r = 0) : chk r.n.data.toList = 0 ∧ r.d.size ≤ 2000 ∧ vld r.t r.d.data.toList = true := by
  unfold rck at h
  split at h
  · rename_i h1
    split at h
    · cases h
    · split at h
      · rename_i h2 h3; exact ⟨h1, by omega, h3⟩
      · cases h
  · rename_i h1; exact absurd h h1
theorem rpH_len {B : Bs} {L : Kn} {r : Rc} (h : Fit B L) (g : rck r = 0) : B.length ≤ (rpH B L r).length ∧ (rpH B L r).length ≤ B.length + 255 + 8 ∧ Fit (rpH B L r) (rpK B L r) := by
  have h1 := pk_le (pts := true) (n := r.n.data.toList) h.l
  have h2 := (chk_zero.1 (rck_zero g).1).2
  have h3 := ((h.name true r.n.data.toList).app (word r.t)).app (word r.c)
  have e : (rpH B L r).length = (pkB true B L r.n.data.toList).length + 8 := by
    unfold rpH; simp [word, long]
  exact ⟨by omega, by omega, h3.app (long r.l)⟩
theorem rp_fit {B : Bs} {L : Kn} {r : Rc} (h : Fit B L) : Fit (rpB B L r) (rpL B L r) ∧ B.length ≤ (rpB B L r).length ∧ (rpB B L r).length ≤ B.length + 2300 := by
  unfold rpB rpL
  by_cases g : rck r = 0
  · rw [if_pos g, if_pos g]
    have h1 := rpH_len h g
    have h2 := putD_fit (pts r.t r.d.data.toList) _ _ (h1.2.2.app (word 0))
    have h3 := pts_join (rck_zero g).2.2
    have h4 := (rck_zero g).2.1
    rw [h3, List.length_append] at h2
    have h5 : (word 0).length = 2 := rfl
    rw [size_list] at h4
    refine ⟨⟨by rw [ptB_len]; exact h2.1.l, h2.1.k⟩, ?_, ?_⟩
    · rw [ptB_len]; unfold rpD; omega
    · rw [ptB_len]; unfold rpD; omega
  · rw [if_neg g, if_neg g]; exact ⟨h, by omega, by omega⟩
end Go.Proofs.Ytflpceaaelampaa
