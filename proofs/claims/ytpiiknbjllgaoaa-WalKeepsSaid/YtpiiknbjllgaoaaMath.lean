/-
  A disk as mathematics: files (a name, bytes, how many of them are durable), what a crash leaves of them.
-/
import Init
namespace Go.Proofs.Ytpiiknbjllgaoaa
abbrev Bs := List UInt8
structure Fl where
  name : ByteArray
  data : Bs
  dur : Nat
structure Dk where
  fs : List Fl
  room : Nat
  steps : Nat
  left : Nat
  off : Bool
  sch : Bool
def Fl.size (f : Fl) : Nat := f.data.length
def usedL (l : List Fl) : Nat := (l.map Fl.size).sum
def Dk.used (d : Dk) : Nat := usedL d.fs
/-- The file of that name. -/
def findF (l : List Fl) (k : ByteArray) : Option Fl := l.find? fun f => decide (f.name = k)
/-- A file in the place of the one of its name. -/
def updF (l : List Fl) (k : ByteArray) (g : Fl → Fl) : List Fl := l.map fun f => if f.name = k then g f else f
def delF (l : List Fl) (k : ByteArray) : List Fl := l.filter fun f => decide (f.name ≠ k)
/-- What a pick selects. -/
def idx (p : Int) (k : Nat) : Nat := ((if p < 0 then -(p + 1) else p).toNat) % k
def flip (l : Bs) : Bs := match l.getLast? with
  | none => []
  | some x => l.dropLast ++ [x ^^^ 255]
def odd (p : Int) : Bool := p.tmod 2 != 0
/-- How many loose bytes a crash keeps. -/
def keepN (f : Fl) (ps : List Int) : Nat := idx (ps.headD 0) (f.data.length - f.dur + 1)
def crD (f : Fl) (ps : List Int) : Bs :=
  let l := f.data.take (f.dur + keepN f ps)
  if (decide (0 < keepN f ps) && odd (ps.tail.headD 0)) = true then flip l else l
def crF (f : Fl) (ps : List Int) : Fl := ⟨f.name, crD f ps, (crD f ps).length⟩
def crL : List Fl → List Int → List Fl
  | [], _ => []
  | f :: r, ps => crF f ps :: crL r ps.tail.tail
theorem idx_lt (p : Int) {k : Nat} (hk : 0 < k) : idx p k < k := Nat.mod_lt _ hk
theorem flip_length (l : Bs) : (flip l).length = l.length := by
  unfold flip
  cases h : l.getLast? with
  | none => simp_all
  | some x =>
    have : l ≠ [] := by intro e; simp [e] at h
    have := List.length_pos_iff.2 this
    simp
    omega
theorem keepN_le {f : Fl} (h : f.dur ≤ f.data.length) (ps : List Int) : f.dur + keepN f ps ≤ f.data.length := by
  have := idx_lt (ps.headD 0) (k := f.data.length - f.dur + 1) (by omega)
  unfold keepN
  omega
theorem crD_length {f : Fl} (h : f.dur ≤ f.data.length) (ps : List Int) : (crD f ps).length = f.dur + keepN f ps := by
  have := keepN_le h ps
  unfold crD
  simp only
  split
  · rw [flip_length, List.length_take]; omega
  · rw [List.length_take]; omega
/-- What was durable is there as it was, and all but the last byte of what remains. -/
theorem crD_same {f : Fl} (h : f.dur ≤ f.data.length) (ps : List Int) {j : Nat} (hj : j + 1 < (crD f ps).length ∨ j < f.dur) : (crD f ps)[j]? = f.data[j]? := by
  have hk := keepN_le h ps
  have hl := crD_length h ps
  have hj2 : j < f.dur + keepN f ps := by omega
  have e1 : (f.data.take (f.dur + keepN f ps))[j]? = f.data[j]? := by rw [List.getElem?_take, if_pos hj2]
  unfold crD
  simp only
  split
  · rename_i hc
    simp only [Bool.and_eq_true, decide_eq_true_eq] at hc
    rw [← e1]
    have hl2 : (f.data.take (f.dur + keepN f ps)).length = f.dur + keepN f ps := by rw [List.length_take]; omega
    have hj3 : j < f.dur + keepN f ps - 1 := by omega
    generalize f.data.take (f.dur + keepN f ps) = l at hl2
    unfold flip
    cases hh : l.getLast? with
    | none =>
      have : l = [] := by simpa using hh
      rw [this] at hl2
      simp at hl2
      omega
    | some x =>
      show (l.dropLast ++ [x ^^^ 255])[j]? = _
      rw [List.getElem?_append_left (by simp; omega), List.getElem?_dropLast, if_pos (by omega)]
  · exact e1
theorem usedL_perm {a b : List Fl} (h : a.Perm b) : usedL a = usedL b := (h.map _).sum_nat
end Go.Proofs.Ytpiiknbjllgaoaa
