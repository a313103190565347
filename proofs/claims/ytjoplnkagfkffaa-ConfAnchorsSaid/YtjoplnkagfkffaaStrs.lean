/-
  Lists of texts in memory: a slice that the call owns, and one that reads as a list.
-/
import Derived.Test.YtjoplnkagfkffaaLower
import Derived.Laws.AppendOwn
import Derived.OwnWalk
import Derived.Laws.Rows
namespace Go.Proofs.Ytjoplnkagfkffaa
open Go.RowKit
theorem info9 : (Try.prog.info? 9).map (fun i => (i.zero, i.size, i.bytes)) = some (some (.string ⟨#[]⟩), 1, 16) := by kernel_rfl
theorem info5 : (Try.prog.info? 5).map (fun i => (i.zero, i.size, i.bytes)) = some (some (.int .u8 0), 1, 1) := by kernel_rfl
abbrev str (l : Bs) : Value := .string ⟨l.toArray⟩
theorem str_of (t : ByteArray) : str t.data.toList = .string t := rfl
/-- A slice that the call owns, in blocks from base on: these texts. -/
def Own9 (w : World) (base : Nat) (v : Value) (ls : List Bs) : Prop := w.ownsRow base 9 1 v ls.length (ls.map str)
/-- A slice that reads as these texts. -/
def Rd (w : World) (v : Value) (ls : List Bs) : Prop :=
  (v = .slice none 0 0 ∧ ls = []) ∨ ∃ b off cap, v = .slice (some ⟨b, off, none⟩) ls.length cap ∧ b < w.heap.size ∧ ∀ j x, ls[j]? = some x → w.cell? ⟨b, off + j, none⟩ = some (str x)
theorem Rd.below {w w' : World} {v : Value} {ls : List Bs} (h : Rd w v ls) (hb : Below w.heap.size w w') : Rd w' v ls := by
  rcases h with h | ⟨b, off, cap, rfl, hb1, hc⟩
  · exact .inl h
  · exact .inr ⟨b, off, cap, rfl, Nat.lt_of_lt_of_le hb1 hb.size, fun j x hj => (hb.cell (p := ⟨b, off + j, none⟩) hb1).trans (hc j x hj)⟩
theorem Own9.rd {w : World} {base : Nat} {v : Value} {ls : List Bs} (h : Own9 w base v ls) : Rd w v ls := by
  have hc := @World.ownsRow.cells w base 9 1 v ls.length _ h
  rcases h.2 with ⟨rfl, h0⟩ | ⟨g, cap, cur, rfl, hb, hg, _⟩
  · have : ls = [] := List.length_eq_zero_iff.1 h0
    subst this
    exact .inl ⟨rfl, rfl⟩
  · refine .inr ⟨g, 0, cap, rfl, (Array.getElem?_eq_some_iff.1 hg).1, fun j x hj => ?_⟩
    have := hc (g := g) rfl j (str x) (by simp [hj])
    rw [show (⟨g, 0, none⟩ : Addr).add j = ⟨g, 0 + j, none⟩ by unfold Addr.add; split <;> simp_all] at this
    exact this
theorem Own9.below {w w' : World} {B : Nat} {v : Value} {ls : List Bs} (h : Own9 w B v ls) (hb : Below w.heap.size w w') : Own9 w' B v ls := by
  refine World.ownsRow.kept (row := none) h ⟨hb.os, hb.tape, hb.output, hb.size, fun k hk _ => hb.block k hk⟩ ?_
  cases hv : v.ownBlock <;> simp
theorem Own9.mono {w : World} {B B' : Nat} {v : Value} {ls : List Bs} (h : Own9 w B v ls) (hB : B' ≤ B) : Own9 w B' v ls := by
  refine ⟨h.1, ?_⟩
  rcases h.2 with h0 | ⟨g, cap, cur, e, hb, r⟩
  · exact .inl h0
  · exact .inr ⟨g, cap, cur, e, Nat.le_trans hB hb, r⟩
theorem own9_nil (w : World) (B : Nat) : Own9 w B (.slice none 0 0) [] := World.ownsRow_nil _ _ _ _
/-- What one more text leaves. -/
theorem own9_next {w wr w1 : World} {o : Obj} {v v' : Value} {B : Nat} {ls : List Bs} {x : Bs}
    (hown : Own9 wr B v ls) (hBw : w.heap.size ≤ B) (hb : Below w.heap.size w wr)
    (hown' : w1.ownsRow B 9 1 v' (ls.length + 1) (ls.map str ++ [str x])) (hg : (wr.alloc o).grownBy w1 v.ownBlock) :
    Own9 w1 B v' (ls ++ [x]) ∧ Below w.heap.size w w1 := by
  constructor
  · unfold Own9
    rw [List.length_append, List.map_append]
    exact hown'
  · have ha : Below w.heap.size w (wr.alloc o) := hb.alloc hb.size _
    refine ha.trans ⟨hg.os, hg.tape, hg.output, hg.size, fun i hi => hg.block i (Nat.lt_of_lt_of_le hi ha.size) ?_⟩
    intro e
    have := (World.ownsRow.lt hown i e.symm).1
    omega
end Go.Proofs.Ytjoplnkagfkffaa
