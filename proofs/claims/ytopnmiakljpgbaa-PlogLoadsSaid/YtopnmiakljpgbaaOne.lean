/-
  One element appended to a list of one's own; bytes of one's own as a text; numbers that are read.
-/
import Derived.Test.YtopnmiakljpgbaaPut
namespace Go.Proofs.Ytopnmiakljpgbaa
open Go.RowKit
abbrev ub (l : Bs) : List Value := l.map fun b => Value.int .u8 (b.toNat : Int)
/-- Elements of one cell of one's own. -/
def OwnV (w : World) (base : Nat) (e : TypeId) (v : Value) (xs : List Value) : Prop := w.ownsRow base e 1 v xs.length xs
theorem OwnV.nil (w : World) (base : Nat) (e : TypeId) : OwnV w base e (.slice none 0 0) [] := World.ownsRow_nil w base e 1
theorem OwnV.shape {w : World} {base : Nat} {e : TypeId} {v : Value} {xs : List Value} (h : OwnV w base e v xs) : ∃ a cap, v = .slice a xs.length cap ∧ xs.length ≤ cap ∧ cap ≤ maxLen := by
  rcases h.2 with ⟨rfl, h0⟩ | ⟨g, cap, cur, rfl, _, _, h1, h2, _⟩
  · exact ⟨none, 0, by rw [h0], by omega, Nat.zero_le _⟩
  · exact ⟨_, cap, rfl, h1, h2⟩
theorem wp_app_one (t e : TypeId) (z : Value) (bytes : Nat) (ht : Try.prog.underlying t = some (.slice e)) (hinf : (Try.prog.info? e).map (fun i => (i.zero, i.size, i.bytes)) = some (some z, 1, bytes)) (hzc : z.cells.size = 1) (hby : bytes ≤ 100)
    {ops : Array Oper} {rest : List Oper} {o : Oper} {a : Act} {w : World} {Q : Exit → Act → World → Prop} (hgd : o.guard = none) (s x : Operand)
    (ho : o.op = .call { callee := .builtin .append, args := #[s, x], argTypes := #[t, t] }) (base : Nat) (v : Value) (xs : List Value) (hs : a.eval s = v) (hown : OwnV w base e v xs)
    (y : Value) (hy : y.oneCell' = true) (hx : a.eval x = .slice (some ⟨w.heap.size, 0, none⟩) 1 1) (hn : xs.length ≤ 1000000) (hbase : base ≤ w.heap.size)
    (h : ∀ v' w', OwnV w' base e v' (xs ++ [y]) → Below base w w' → wpList Try.prog ops Q rest (a.put o.dst v') w') : wpList Try.prog ops Q (o :: rest) a (w.alloc (.cells #[y] e)) := by
  obtain ⟨i0, hi, hz0, hz1, hz2⟩ := info_parts hinf
  have hb1 := one_new w (.cells #[y] e)
  refine wpList_append_own _ hgd s x t ho base e i0 z 1 bytes ht hi hz0 hz1 hz2 hzc (by decide) v xs.length xs hs (World.ownsRow.alloc hown _) ⟨w.heap.size, 0, none⟩ 1 1 [y] hx rfl (cell_one_new _ _ _) (by simpa using hy) (by unfold maxLen; omega) ?_ (by have := hb1.size; omega) ?_
  · have : (xs.length + 1) * bytes ≤ 1000001 * 100 := Nat.mul_le_mul (by omega) hby
    omega
  · intro v' w' g1 g2 _
    refine h v' w' ?_ ?_
    · unfold OwnV
      rw [List.length_append]
      exact g1
    · refine (hb1.mono hbase).trans ⟨g2.os, g2.tape, g2.output, g2.size, fun i hi => g2.block i (by have := hb1.size; omega) ?_⟩
      intro e'
      have := (World.ownsRow.lt hown i e'.symm).1
      omega
theorem OwnV.alloc {w : World} {base : Nat} {e : TypeId} {v : Value} {xs : List Value} (h : OwnV w base e v xs) (o : Obj) : OwnV (w.alloc o) base e v xs := World.ownsRow.alloc h o
theorem OwnV.cells {w : World} {base : Nat} {e : TypeId} {g n cap : Nat} {k : Nat} {xs : List Value} (h : OwnV w base e (.slice (some ⟨g, k, none⟩) n cap) xs) : k = 0 ∧ base ≤ g ∧ ∀ (j : Nat) u, xs[j]? = some u → w.cell? ⟨g, j, none⟩ = some u := by
  have hc := @World.ownsRow.cells w base e 1 _ xs.length _ h
  rcases h.2 with ⟨h1, _⟩ | ⟨g', cap', cur, h1, hb, _⟩
  · cases h1
  · cases h1
    refine ⟨rfl, hb, fun j u hu => ?_⟩
    have := hc (g := g) rfl j u hu
    rw [add_any] at this
    simpa using this
theorem OwnV.set {w : World} {base : Nat} {e : TypeId} {v : Value} {xs : List Value} (h : OwnV w base e v xs) {b i : Nat} (hb : b < base) (x : Value) : OwnV (w.setCell ⟨b, i, none⟩ x) base e v xs := by
  refine ⟨h.1, ?_⟩
  rcases h.2 with h | ⟨g, cap, cur, rfl, hbg, hg, h2⟩
  · exact .inl h
  · exact .inr ⟨g, cap, cur, rfl, hbg, (heap_setCell_other w ⟨b, i, none⟩ g x (fun e => by have e : g = b := e; omega)).trans hg, h2⟩
theorem OwnV.weak {w : World} {base base' : Nat} {e : TypeId} {v : Value} {xs : List Value} (h : OwnV w base e v xs) (hb : base' ≤ base) : OwnV w base' e v xs := by
  refine ⟨h.1, ?_⟩
  rcases h.2 with h | ⟨g, cap, cur, hv, hbg, h2⟩
  · exact .inl h
  · exact .inr ⟨g, cap, cur, hv, by omega, h2⟩
theorem OwnV.below {w w' : World} {base : Nat} {e : TypeId} {v : Value} {xs : List Value} (h : OwnV w base e v xs) (hb : Below w.heap.size w w') : OwnV w' base e v xs := by
  refine ⟨h.1, ?_⟩
  rcases h.2 with h | ⟨g, cap, cur, hv, hbg, hg, h2⟩
  · exact .inl h
  · exact .inr ⟨g, cap, cur, hv, hbg, (hb.block g (Array.getElem?_eq_some_iff.1 hg).1).trans hg, h2⟩
theorem OwnE.below {w w' : World} {base : Nat} {v : Value} {L : List En} (h : OwnE w base v L) (hb : Below w.heap.size w w') : OwnE w' base v L := by
  refine ⟨h.1, ?_⟩
  rcases h.2 with h | ⟨g, cap, cur, hv, hbg, hg, h2⟩
  · exact .inl h
  · exact .inr ⟨g, cap, cur, hv, hbg, (hb.block g (Array.getElem?_eq_some_iff.1 hg).1).trans hg, h2⟩
theorem info5 : (Try.prog.info? 5).map (fun i => (i.zero, i.size, i.bytes)) = some (some (.int .u8 0), 1, 1) := by kernel_rfl
theorem info3 : (Try.prog.info? 3).map (fun i => (i.zero, i.size, i.bytes)) = some (some (.int .i64 0), 1, 8) := by kernel_rfl
theorem info9 : (Try.prog.info? 9).map (fun i => (i.zero, i.size, i.bytes)) = some (some (.string ⟨#[]⟩), 1, 16) := by kernel_rfl
/-- Bytes of one's own as a text. -/
theorem row_back {w : World} {base : Nat} {v : Value} {l : Bs} (h : OwnV w base 5 v (ub l)) : (convert 75 9 v).run Try.prog w = .ok (.string ⟨l.toArray⟩) w := by
  have hc := @World.ownsRow.cells w base 5 1 _ _ _ h
  rcases h.2 with ⟨e, h0⟩ | ⟨g, cap', cur, e, hb, hg, _⟩
  · have hl : l = [] := by simpa using List.length_eq_zero_iff.1 h0
    subst hl
    cases e
    have := run_convert_bytes_string (P := Try.prog) w 75 9 5 none 0 0 Try.underlying75 Try.underlying5 Try.underlying9
    rw [this]
    simp [Conv.bytesToString]
    rfl
  · cases e
    have hl : (ub l).length = l.length := by simp
    rw [hl] at hc ⊢
    exact run_convert_bytes_back (P := Try.prog) w 75 9 5 ⟨g, 0, none⟩ _ l Try.underlying75 Try.underlying5 Try.underlying9 (fun j hj => hc (g := g) rfl j _ (by simp [hj]))
/-- A slice that reads as these numbers. -/
def RdN (w : World) (v : Value) (L : List Int) : Prop := ∃ a cap, v = .slice a L.length cap ∧ L.length ≤ cap ∧ cap ≤ maxLen ∧ (L = [] ∨ ∃ g k, a = some ⟨g, k, none⟩ ∧ ∀ (i : Nat) x, L[i]? = some x → w.cell? ⟨g, k + i, none⟩ = some (it x))
theorem RdN.below {w w' : World} {v : Value} {L : List Int} (h : RdN w v L) (hb : Below w.heap.size w w') : RdN w' v L := by
  obtain ⟨a, cap, e, h1, h2, h3⟩ := h
  refine ⟨a, cap, e, h1, h2, h3.imp id fun ⟨g, k, e, hc⟩ => ⟨g, k, e, fun i s hs => ?_⟩⟩
  have := hc i s hs
  exact (hb.cell (p := ⟨g, k + i, none⟩) (w.block_lt_of_cell? _ this)).trans this
theorem RdN.nil (w : World) : RdN w (.slice none 0 0) [] := ⟨none, 0, rfl, Nat.le_refl _, Nat.zero_le _, .inl rfl⟩
theorem RdN.at {w : World} {a : Option Addr} {n cap : Nat} {L : List Int} (h : RdN w (.slice a n cap) L) {k : Nat} {x : Int} (hk : L[k]? = some x) :
    n = L.length ∧ ∃ g o, a = some ⟨g, o, none⟩ ∧ g < w.heap.size ∧ w.cell? ⟨g, o + k, none⟩ = some (it x) := by
  obtain ⟨a', cap', he, _, _, h3⟩ := h
  cases he
  rcases h3 with rfl | ⟨g, o, rfl, hc⟩
  · simp at hk
  · exact ⟨rfl, g, o, rfl, w.block_lt_of_cell? _ (hc k x hk), hc k x hk⟩
theorem RdN.shape {w : World} {v : Value} {L : List Int} (h : RdN w v L) : ∃ a cap, v = .slice a L.length cap ∧ L.length ≤ cap ∧ cap ≤ maxLen := let ⟨a, cap, e, h1, h2, _⟩ := h; ⟨a, cap, e, h1, h2⟩
abbrev ivs (L : List Int) : List Value := L.map it
theorem OwnV.rdN {w : World} {base : Nat} {v : Value} {L : List Int} (h : OwnV w base 3 v (ivs L)) : RdN w v L := by
  have hc := @World.ownsRow.cells w base 3 1 _ _ _ h
  have hl : (ivs L).length = L.length := by simp
  rcases h.2 with ⟨rfl, h0⟩ | ⟨g, cap, cur, rfl, hbg, hg, hnc, hcm, hcs, htake⟩
  · rw [hl] at h0
    have hL : L = [] := List.eq_nil_of_length_eq_zero h0
    subst hL
    exact RdN.nil w
  · rw [hl] at hnc ⊢
    refine ⟨_, cap, rfl, hnc, hcm, .inr ⟨g, 0, rfl, fun i x hx => ?_⟩⟩
    have := hc (g := g) rfl i (it x) (by simp [hx])
    rw [add_any] at this
    exact this
end Go.Proofs.Ytopnmiakljpgbaa
