/-
  A list of texts, and a list of numbers, that the statement itself collects; arguments by their places.
-/
import Derived.Test.YtnhjbhmhloeaeaaOps
namespace Go.Proofs.Ytnhjbhmhloeaeaa
open Go.RowKit
theorem came_get {W : World} {a : Option Addr} {len : Nat} (h : Came W a len) (k : Nat) (hk : k < len) : ∃ b off, ∃ s : ByteArray, a = some ⟨b, off, none⟩ ∧ b < W.heap.size ∧ W.cell? ⟨b, off + k, none⟩ = some (.string s) := by
  rcases h with h | ⟨b, off, ss, h1, h2, h3⟩
  · omega
  · exact ⟨b, off, ss k, h1, h2, h3 k hk⟩
/-- A slice that the call owns, in blocks from base on: these texts. -/
def Own9 (w : World) (base : Nat) (v : Value) (ls : List Bs) : Prop := w.ownsRow base 9 1 v ls.length (ls.map str)
theorem own9_nil (w : World) (B : Nat) : Own9 w B (.slice none 0 0) [] := World.ownsRow_nil _ _ _ _
theorem Own9.shape {w : World} {B : Nat} {v : Value} {ls : List Bs} (h : Own9 w B v ls) : ∃ a cap, v = .slice a ls.length cap := by
  rcases h.2 with ⟨rfl, h0⟩ | ⟨g, cap, cur, rfl, _⟩
  · exact ⟨none, 0, by rw [h0]⟩
  · exact ⟨_, cap, rfl⟩
theorem Own9.ls {w : World} {base : Nat} {v : Value} {ls : List Bs} (h : Own9 w base v ls) : Ls w v ls := by
  have hc := @World.ownsRow.cells w base 9 1 v ls.length _ h
  rcases h.2 with ⟨rfl, h0⟩ | ⟨g, cap, cur, rfl, hb, hg, _⟩
  · exact .inl ⟨rfl, List.length_eq_zero_iff.1 h0⟩
  · refine .inr ⟨g, 0, cap, rfl, (Array.getElem?_eq_some_iff.1 hg).1, fun j x hj => ?_⟩
    have := hc (g := g) rfl j (str x) (by simp [hj])
    rwa [Addr.add_lit] at this
theorem Own9.below {w w' : World} {B : Nat} {v : Value} {ls : List Bs} (h : Own9 w B v ls) (hb : Below w.heap.size w w') : Own9 w' B v ls := by
  refine World.ownsRow.kept (row := none) h ⟨hb.os, hb.tape, hb.output, hb.size, fun k hk _ => hb.block k hk⟩ ?_
  cases hv : v.ownBlock <;> simp
/-- What one more text leaves. -/
theorem own9_next {w wr w1 : World} {o : Obj} {v v' : Value} {B : Nat} {ls : List Bs} {x : Bs}
    (hown : Own9 wr B v ls) (hBw : w.heap.size ≤ B) (hb : Below w.heap.size w wr)
    (hown' : w1.ownsRow B 9 1 v' (ls.length + 1) (ls.map str ++ [str x])) (hg : (wr.alloc o).grownBy w1 v.ownBlock) :
    Own9 w1 B v' (ls ++ [x]) ∧ Below w.heap.size w w1 := by
  constructor
  · unfold Own9
    rw [List.length_append, List.map_append]
    exact hown'
  · have ha : Below w.heap.size w (wr.alloc o) := hb.alloc hb.size _
    refine ha.trans ⟨hg.os, hg.tape, hg.output, hg.size, fun i hi => hg.block i (Nat.lt_of_lt_of_le hi ha.size) ?_⟩
    intro e
    have := (World.ownsRow.lt hown i e.symm).1
    omega
theorem made_zero (m : Nat) : (madeCells #[Value.int .u8 0] m).toList = ub (List.replicate m 0) := by
  rw [toList_madeCells_one]
  simp [ub]
/-- So many bytes at most. -/
theorem frs_le (ls : List Bs) (m : Nat) (h : ∀ x ∈ ls, x.length ≤ m) : (frs ls).length ≤ ls.length * (2 + m) := by
  induction ls with
  | nil => simp [frs]
  | cons x l ih =>
    have h1 := ih (fun y hy => h y (List.mem_cons_of_mem _ hy))
    have h2 := h x (List.mem_cons_self ..)
    rw [frs_cons, List.length_append, fr_length, List.length_cons, Nat.add_mul]
    omega
theorem fits_of (ls : List Bs) (h : ∀ x ∈ ls, x.length ≤ 300) : fits ls = true := by
  unfold fits
  rw [List.all_eq_true]
  intro x hx
  have := h x hx
  simp; omega
end Go.Proofs.Ytnhjbhmhloeaeaa
