/-
  Names that are made of the end of a list of labels: how they are cut, and held against each other.
-/
import Derived.Test.YtpeojicimmofjaaBackMath
import Derived.Test.YtpeojicimmofjaaRCut
import Derived.Test.YtpeojicimmofjaaOrderMath
namespace Go.Proofs.Ytpeojicimmofjaa
theorem cpl_take (T : List Bs) (p q : Nat) (hp : p ≤ T.length) (hq : q ≤ T.length) : cpl (T.take p) (T.take q) = min p q := by
  refine cpl_full _ _ _ ?_ ?_ ?_ (fun j hj => ?_)
  · simp; omega
  · simp; omega
  · simp; omega
  · simp only [List.getD_eq_getElem?_getD]
    rw [List.getElem?_take_of_lt (by omega), List.getElem?_take_of_lt (by omega)]
/-- The name of what is behind so many labels. -/
def tl (A : List Bs) (i : Nat) : Bs := mkS (A.drop i)
theorem tl_mk {A : List Bs} (h : mkE A = 0) (i : Nat) : mkE (A.drop i) = 0 := by
  obtain ⟨h1, h2, _⟩ := made h
  have := drop_ok h1 i
  rwa [h2] at this
theorem tl_chk {A : List Bs} (h : mkE A = 0) (i : Nat) : chk (tl A i) = 0 := (made (tl_mk h i)).1
theorem tl_labs {A : List Bs} (h : mkE A = 0) (i : Nat) : labs (tl A i) = A.drop i := (made (tl_mk h i)).2.1
theorem tl_len {A : List Bs} (h : mkE A = 0) (i : Nat) : (tl A i).length ≤ 255 := (made (tl_mk h i)).2.2
theorem tl_cm {A : List Bs} (h : mkE A = 0) (i j : Nat) (hi : i ≤ A.length) (hj : j ≤ A.length) : cm (tl A i) (tl A j) = A.length - max i j := by
  unfold cm
  rw [labs_low, labs_low, tl_labs h, tl_labs h, List.map_drop, List.map_drop, List.reverse_drop, List.reverse_drop, cpl_take _ _ _ (by simp) (by simp)]
  simp; omega
theorem tl_und {A : List Bs} (h : mkE A = 0) (i j : Nat) (hi : i ≤ A.length) (hj : j ≤ A.length) : und (tl A i) (tl A j) = decide (i ≤ j) := by
  rw [← und_cm (tl_chk h i) (tl_chk h j), tl_cm h i j hi hj, tl_labs h, List.length_drop, Bool.eq_iff_iff]
  simp; omega
theorem tl_shr {A : List Bs} (h : mkE A = 0) (i j : Nat) (hi : i ≤ A.length) (hj : j ≤ A.length) : shr (tl A i) (tl A j) = ((A.length - max i j : Nat) : Int) := by
  rw [← shr_yes (tl_chk h i) (tl_chk h j), tl_cm h i j hi hj]
theorem tl_cut {A : List Bs} (h : mkE A = 0) (i : Nat) (d : Int) (hi : A.length - d.toNat = i) : cutS (tl A 0) d = tl A i := by
  have h1 := tl_chk h 0
  have h2 := tl_labs h 0
  rw [← cut_make h1 d i (by unfold cutK; rw [h2]; simpa using hi.symm), h2]
  rfl
theorem tl_end (A : List Bs) : tl A A.length = [0] := by
  unfold tl
  rw [List.drop_length, mkS_zero mkE_nil]
  rfl
theorem sub_all {w : World} {B cap N k : Nat} {a : Option Addr} {A : List Bs} (h : Own9 w B (.slice a N cap) A) (hk : k ≤ N) : Rd w (.slice (if cap = k then a else Option.map (fun x => x.add k) a) (N - k) (cap - k)) (A.drop k) := by
  by_cases hN : 0 < N
  · exact sub_rd h hk hN
  · have hl := own_len h
    obtain rfl : N = 0 := by omega
    obtain rfl : k = 0 := by omega
    obtain rfl : A = [] := List.length_eq_zero_iff.1 hl.symm
    rcases h.rd with ⟨e, _⟩ | ⟨b, off, cap', e, hb, _⟩
    · cases e; exact .inl ⟨rfl, rfl⟩
    · cases e
      by_cases e : cap = 0
      · rw [if_pos e]; exact .inr ⟨b, off, cap, by simp, hb, fun j x hj => by simp at hj⟩
      · rw [if_neg e]; exact .inr ⟨b, off, cap, by simp [Addr.add], hb, fun j x hj => by simp at hj⟩
theorem sub_eq' {w : World} {B N : Nat} {a : Option Addr} {A : List Bs} (h : Own9 w B (.slice a N N) A) : Rd w (.slice a 0 0) (A.drop N) := by
  have := sub_all h (Nat.le_refl N)
  rw [if_pos rfl, Nat.sub_self] at this
  exact this
theorem sub_ne' {w : World} {B cap N k : Nat} {a : Option Addr} {A : List Bs} (h : Own9 w B (.slice a N cap) A) (hk : k ≤ N) (hc : ¬ cap = k) : Rd w (.slice (Option.map (fun x => x.add k) a) (N - k) (cap - k)) (A.drop k) := by
  have := sub_all h hk
  rw [if_neg hc] at this
  exact this
end Go.Proofs.Ytpeojicimmofjaa
