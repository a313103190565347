/-
  Three files, one of them renamed; a crash of two.
-/
import Derived.Test.YtpihlamhpmmeeaaLastMath
namespace Go.Proofs.Ytpihlamhpmmeeaa
open Go.RowKit
abbrev nB : ByteArray := ⟨#[98]⟩
abbrev nC : ByteArray := ⟨#[99]⟩
theorem gB : Gn nB := by unfold Gn; decide +kernel
theorem gC : Gn nC := by unfold Gn; decide +kernel
def dk (c : Nat) (fs : List Fl) : Dk := ⟨fs, 100000, c, 0, false, false⟩
theorem dk_E {c : Nat} {fs : List Fl} {s : Bs} (h : usedL fs + s.length ≤ 100000) : appE (dk c fs) s = 0 := by
  have h2 : (dk c fs).used + s.length ≤ (dk c fs).room := h
  unfold appE preE fitE
  rw [if_pos h2, if_neg (by simp [dk]), if_neg (by simp), if_neg (by simp [stopsD, dk])]
theorem dk_D {c : Nat} {fs : List Fl} {s : Bs} {k : ByteArray} (h : usedL fs + s.length ≤ 100000) : appD (dk c fs) k s = addTo (dk (c + 1) fs) k s := by
  unfold appD
  rw [if_pos (dk_E h)]
  rfl
theorem dk_S {c : Nat} {fs : List Fl} {k : ByteArray} (h : (findF fs k).isSome = true) : synE (dk c fs) k = 0 ∧ synD (dk c fs) k = dk (c + 1) (withF fs k fun f => ⟨f.name, f.data, f.data.length⟩) := by
  have h1 : hasE (dk c fs) k = 0 := by
    unfold hasE
    rw [if_pos (show (findF (dk c fs).fs k).isSome = true from h)]
  have h2 : synE (dk c fs) k = 0 := by
    unfold synE preE
    rw [h1, if_neg (by simp [dk]), if_neg (by simp), if_neg (by simp [stopsD, dk])]
  refine ⟨h2, ?_⟩
  unfold synD
  rw [if_pos h2]
  rfl
theorem dk_R {c : Nat} {fs : List Fl} {k : ByteArray} {f : Fl} (h : findF fs k = some f) : redE (dk c fs) k = 0 ∧ redS (dk c fs) k = ⟨f.data.toArray⟩ := by
  have h2 : findF (dk c fs).fs k = some f := h
  have h1 : redE (dk c fs) k = 0 := by
    unfold redE hasE
    rw [if_neg (by simp [dk]), h2]
    rfl
  refine ⟨h1, ?_⟩
  unfold redS
  rw [if_pos h1, h2]
theorem dk_N {c : Nat} {fs : List Fl} {k : ByteArray} (h : findF fs k = none) : redE (dk c fs) k = 12 ∧ redS (dk c fs) k = ⟨#[]⟩ := by
  have h2 : findF (dk c fs).fs k = none := h
  have h1 : redE (dk c fs) k = 12 := by
    unfold redE hasE
    rw [if_neg (by simp [dk]), h2, if_neg (by simp)]
  refine ⟨h1, ?_⟩
  unfold redS
  rw [h1, if_neg (by decide)]
section
variable (a0 a1 b0 b1 : Bs)
abbrev stays : Bs := [115, 116, 97, 121, 115]
def gFA : Fl := ⟨nA, a0 ++ a1, a0.length⟩
def gFB : Fl := ⟨nB, b0 ++ b1, b0.length⟩
def gFC : Fl := ⟨nC, stays, 5⟩
def gFR : Fl := ⟨nB, a0 ++ a1, a0.length⟩
theorem t1 : addTo (dk 1 []) nA a0 = dk 1 [⟨nA, a0, 0⟩] := by simp [addTo, putIf, dk, findF, withF, updF, delF]
theorem t2 : withF [⟨nA, a0, 0⟩] nA (fun f => ⟨f.name, f.data, f.data.length⟩) = [⟨nA, a0, a0.length⟩] := by simp [findF, withF, updF]
theorem t3 : addTo (dk 3 [⟨nA, a0, a0.length⟩]) nA a1 = dk 3 [gFA a0 a1] := by simp [addTo, putIf, dk, findF, withF, updF, gFA]
theorem t4 : addTo (dk 4 [gFA a0 a1]) nB b0 = dk 4 [⟨nB, b0, 0⟩, gFA a0 a1] := by simp [addTo, putIf, dk, findF, withF, updF, delF, gFA]
theorem t5 : withF [⟨nB, b0, 0⟩, gFA a0 a1] nB (fun f => ⟨f.name, f.data, f.data.length⟩) = [⟨nB, b0, b0.length⟩, gFA a0 a1] := by simp [findF, withF, updF, gFA]
theorem t6 : addTo (dk 6 [⟨nB, b0, b0.length⟩, gFA a0 a1]) nB b1 = dk 6 [gFB b0 b1, gFA a0 a1] := by simp [addTo, putIf, dk, findF, withF, updF, gFA, gFB]
theorem t7 : addTo (dk 7 [gFB b0 b1, gFA a0 a1]) nC stays = dk 7 [⟨nC, stays, 0⟩, gFB b0 b1, gFA a0 a1] := by simp [addTo, putIf, dk, findF, withF, updF, delF, gFA, gFB]
theorem t8 : withF [⟨nC, stays, 0⟩, gFB b0 b1, gFA a0 a1] nC (fun f => ⟨f.name, f.data, f.data.length⟩) = [gFC, gFB b0 b1, gFA a0 a1] := by simp [findF, withF, updF, gFA, gFB, gFC]
theorem t9 : preE (dk 8 [gFC, gFB b0 b1, gFA a0 a1]) (hasE (dk 8 [gFC, gFB b0 b1, gFA a0 a1]) nA) = 0 ∧ renD (dk 8 [gFC, gFB b0 b1, gFA a0 a1]) nA nB = dk 9 [gFR a0 a1, gFC] := by
  have hf : findF [gFC, gFB b0 b1, gFA a0 a1] nA = some (gFA a0 a1) := by simp [findF, gFA, gFB, gFC]
  have hh : hasE (dk 8 [gFC, gFB b0 b1, gFA a0 a1]) nA = 0 := by
    unfold hasE
    rw [show findF (dk 8 [gFC, gFB b0 b1, gFA a0 a1]).fs nA = some (gFA a0 a1) from hf]
    rfl
  have h1 : preE (dk 8 [gFC, gFB b0 b1, gFA a0 a1]) (hasE (dk 8 [gFC, gFB b0 b1, gFA a0 a1]) nA) = 0 := by
    unfold preE
    rw [hh, if_neg (by simp [dk]), if_neg (by simp), if_neg (by simp [stopsD, dk])]
  refine ⟨h1, ?_⟩
  unfold renD
  rw [if_pos h1, show findF (dk 8 [gFC, gFB b0 b1, gFA a0 a1]).fs nA = some (gFA a0 a1) from hf]
  simp [stepD, dk, delF, gFA, gFB, gFC, gFR]
theorem t10 : findF [gFR a0 a1, gFC] nA = none := by simp [findF, gFR, gFC]
theorem t11 : findF [gFR a0 a1, gFC] nB = some (gFR a0 a1) := by simp [findF, gFR]
theorem t12 (X : Bs) : findF [⟨nB, X, X.length⟩, gFC] nB = some ⟨nB, X, X.length⟩ := by simp [findF]
theorem t13 (X : Bs) : findF [⟨nB, X, X.length⟩, gFC] nC = some gFC := by simp [findF, gFC]
end
theorem perm_two {α : Type} {x y : α} {L : List α} (h : L.Perm [x, y]) : L = [x, y] ∨ L = [y, x] := by
  have hl := h.length_eq
  match L, hl, h with
  | [u, v], _, h =>
    have hu : u ∈ [x, y] := h.mem_iff.1 (by simp)
    simp only [List.mem_cons, List.not_mem_nil, or_false] at hu
    rcases hu with rfl | rfl
    · left
      have := List.perm_singleton.1 ((List.perm_cons u).1 h)
      rw [this]
    · right
      have := List.perm_singleton.1 ((List.perm_cons u).1 (h.trans (List.Perm.swap _ _ _)))
      rw [this]
/-- A crash of two files, one of which lasts whole. -/
theorem crash_two {T : Nat → Prop} {n b c : Nat} {S : Nat → Prop} {w0 w : World} {k : ByteArray} {l : Bs} {A : Nat} (h : NA n S w0 b (dk c [⟨k, l, A⟩, gFC]) w) {v : Value} {ps : List Int} (hp : RdI T w v ps) (hT : ∀ g, T g → ¬ S g) (hU : l.length ≤ 1000000000) :
    Calls Try.prog 14 #[ptr b, v] w fun e w' => (∃ u, e = .returned u) ∧ ∃ p, Lft S b (dk c [⟨k, lx A l p, (lx A l p).length⟩, gFC]) w w' := by
  have hg : ∀ ps, crF gFC ps = gFC := fun ps => by
    have : crD gFC ps = stays := lx_all stays ps
    unfold crF
    rw [this]
    rfl
  have hf : ∀ ps, crF ⟨k, l, A⟩ ps = ⟨k, lx A l ps, (lx A l ps).length⟩ := fun _ => rfl
  refine (crash_any h.p (fun k hk => (h.hS k hk).2) hp hT (fun x hx => by
    rcases List.mem_cons.1 hx with rfl | hx
    · exact hU
    · rcases List.mem_cons.1 hx with rfl | hx
      · decide
      · cases hx) (by show 2 ≤ _; omega)).mono ?_
  rintro e w' ⟨he, ⟨L, hL, hpd⟩, ht⟩
  refine ⟨he, ?_⟩
  rcases perm_two hL with rfl | rfl
  · refine ⟨ps, hpd.perm ?_ ⟨rfl, rfl, rfl, rfl, rfl⟩, ht⟩
    show (crL [⟨k, l, A⟩, gFC] ps).Perm _
    unfold crL crL crL
    rw [hf, hg]
    exact List.Perm.refl _
  · refine ⟨ps.tail.tail, hpd.perm ?_ ⟨rfl, rfl, rfl, rfl, rfl⟩, ht⟩
    show (crL [gFC, ⟨k, l, A⟩] ps).Perm _
    unfold crL crL crL
    rw [hf, hg]
    exact List.Perm.swap _ _ _
end Go.Proofs.Ytpihlamhpmmeeaa
