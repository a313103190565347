/-
  A disk of one file, of which the first bytes are durable: what is appended, synced, read, and left behind a crash.
-/
import Derived.Test.YtpihlamhpmmeeaaLawFull
namespace Go.Proofs.Ytpihlamhpmmeeaa
def las (c A : Nat) (l : Bs) : Dk := ⟨[⟨nF, l, A⟩], 100000, c, 0, false, false⟩
theorem las_used (c A : Nat) (l : Bs) : (las c A l).used = l.length := by simp [las, Dk.used, usedL, Fl.size]
theorem las_E {c A : Nat} {l s : Bs} (h : l.length + s.length ≤ 100000) : appE (las c A l) s = 0 := by
  unfold appE preE fitE
  rw [las_used, if_pos (show l.length + s.length ≤ (las c A l).room from h), if_neg (by simp [las]), if_neg (by simp), if_neg (by simp [stopsD, las])]
theorem las_D {c A : Nat} {l s : Bs} (h : l.length + s.length ≤ 100000) : appD (las c A l) nF s = las (c + 1) A (l ++ s) := by
  unfold appD
  rw [if_pos (las_E h)]
  simp [addTo, putIf, stepD, las, findF, withF, updF]
theorem new_E {s : Bs} (h : s.length ≤ 100000) : appE (newD 100000) s = 0 := by
  have h2 : (newD 100000).used + s.length ≤ (newD 100000).room := by
    show usedL [] + s.length ≤ 100000
    simpa [usedL] using h
  unfold appE preE fitE
  rw [if_pos h2, if_neg (by simp [newD]), if_neg (by simp), if_neg (by simp [stopsD, newD])]
theorem new_D {s : Bs} (h : s.length ≤ 100000) : appD (newD 100000) nF s = las 1 0 s := by
  unfold appD
  rw [if_pos (new_E h)]
  simp [addTo, putIf, stepD, newD, las, findF, withF, updF, delF]
theorem las_S (c A : Nat) (l : Bs) : synE (las c A l) nF = 0 ∧ synD (las c A l) nF = las (c + 1) l.length l := by
  have h : synE (las c A l) nF = 0 := by
    have hh : hasE (las c A l) nF = 0 := by simp [hasE, las, findF]
    unfold synE preE
    rw [hh, if_neg (by simp [las]), if_neg (by simp), if_neg (by simp [stopsD, las])]
  refine ⟨h, ?_⟩
  unfold synD
  rw [if_pos h]
  simp [stepD, las, findF, withF, updF]
theorem las_R (c A : Nat) (l : Bs) : redE (las c A l) nF = 0 ∧ redS (las c A l) nF = ⟨l.toArray⟩ := by
  have h : redE (las c A l) nF = 0 := by
    unfold redE hasE
    rw [if_neg (by simp [las]), if_pos (by simp [las, findF])]
  refine ⟨h, ?_⟩
  unfold redS
  rw [if_pos h]
  simp [las, findF]
/-- What remains of the bytes. -/
def lx (A : Nat) (l : Bs) (ps : List Int) : Bs := crD ⟨nF, l, A⟩ ps
theorem las_C (c A : Nat) (l : Bs) (ps : List Int) : crashD (las c A l) [⟨nF, l, A⟩] ps = las c (lx A l ps).length (lx A l ps) := by
  simp [crashD, las, crL, crF, lx]
theorem lx_len {A : Nat} {l : Bs} (h : A ≤ l.length) (ps : List Int) : A ≤ (lx A l ps).length ∧ (lx A l ps).length ≤ l.length := by
  have h1 := crD_length (f := ⟨nF, l, A⟩) h ps
  have h2 := keepN_le (f := ⟨nF, l, A⟩) h ps
  unfold lx
  simp only at h1 h2
  omega
/-- What was durable is there. -/
theorem lx_take {A : Nat} {l : Bs} (h : A ≤ l.length) (ps : List Int) : (lx A l ps).take A = l.take A := by
  apply List.ext_getElem?
  intro i
  rw [List.getElem?_take, List.getElem?_take]
  split
  · rename_i hi
    exact crD_same (f := ⟨nF, l, A⟩) h ps (.inr hi)
  · rfl
/-- All but the last byte of what remains. -/
theorem lx_most {A : Nat} {l : Bs} (h : A ≤ l.length) (ps : List Int) {m : Nat} (hm : m + 1 = (lx A l ps).length) : (lx A l ps).take m = l.take m := by
  apply List.ext_getElem?
  intro i
  rw [List.getElem?_take, List.getElem?_take]
  split
  · rename_i hi
    exact crD_same (f := ⟨nF, l, A⟩) h ps (.inl (by unfold lx at hm; omega))
  · rfl
theorem lx_all (l : Bs) (ps : List Int) : lx l.length l ps = l := by
  have hk : keepN ⟨nF, l, l.length⟩ ps = 0 := by
    unfold keepN idx
    simp [Nat.mod_one]
  unfold lx crD
  simp [hk]
theorem ext_take (l : Bs) (m : Nat) : (⟨l.toArray⟩ : ByteArray).extract 0 m = ⟨(l.take m).toArray⟩ := by
  apply ByteArray.ext
  apply Array.toList_inj.1
  simp
theorem ba_size (l : Bs) : (⟨l.toArray⟩ : ByteArray).size = l.length := by rw [size_list]
end Go.Proofs.Ytpihlamhpmmeeaa
