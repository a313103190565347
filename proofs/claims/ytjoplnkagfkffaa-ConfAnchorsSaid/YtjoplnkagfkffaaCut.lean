/-
  What Cut answers, for every text and every number; no older memory is changed.
-/
import Derived.Test.YtjoplnkagfkffaaLabels
import Derived.Outline
namespace Go.Proofs.Ytjoplnkagfkffaa
open Go.RowKit Go.Shelf
attribute [local go_sem] Oper.semAt_some
/-- How many of the first labels are left out. -/
def cutK (l : Bs) (d : Int) : Nat := (labs l).length - d.toNat
/-- What Cut answers. -/
def cutS (l : Bs) (d : Int) : Bs := if chk l = 0 then enc ((labs l).drop (cutK l d)) ++ [0] else []
theorem cutS_no {l : Bs} {d : Int} (h : ¬ chk l = 0) : cutS l d = [] := by unfold cutS; rw [if_neg h]
theorem extract_cut (s : ByteArray) (d : Int) (h : chk s.data.toList = 0) : s.extract (enc ((labs s.data.toList).take (cutK s.data.toList d))).length s.size = ⟨(cutS s.data.toList d).toArray⟩ := by
  have h1 := split s.data.toList
  rw [(chk_zero.1 h).1] at h1
  unfold cutS
  rw [if_pos h]
  generalize cutK s.data.toList d = k
  generalize labs s.data.toList = ls at h1 ⊢
  rw [← List.take_append_drop k ls, enc_append] at h1
  apply ByteArray.ext
  apply Array.toList_inj.1
  rw [ByteArray.data_extract, Array.toList_extract, size_list]
  simp only [List.extract]
  rw [← h1]
  simp
  rw [List.take_of_length_le (by simp)]
theorem cut_le (s : ByteArray) (k : Nat) : (enc ((labs s.data.toList).take k)).length ≤ s.size := by
  have h1 := split s.data.toList
  rw [← List.take_append_drop k (labs s.data.toList), enc_append] at h1
  have := congrArg List.length h1
  simp only [List.length_append] at this
  rw [size_list]; omega
end Go.Proofs.Ytjoplnkagfkffaa
