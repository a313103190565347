/-
  What Labels answers, for every text; no older memory is changed.
-/
import Derived.Test.YtjoplnkagfkffaaRLabels
namespace Go.Proofs.Ytjoplnkagfkffaa
open Go.RowKit Go.Shelf
attribute [local go_sem] Oper.semAt_some
theorem row_below {w w' : World} {base e size n : Nat} {v : Value} {xs : List Value} (h : w.ownsRow base e size v n xs) (hb : Below w.heap.size w w') : w'.ownsRow base e size v n xs := by
  refine World.ownsRow.kept (row := none) h ⟨hb.os, hb.tape, hb.output, hb.size, fun k hk _ => hb.block k hk⟩ ?_
  cases hv : v.ownBlock <;> simp
theorem row_mono {w : World} {B B' e size n : Nat} {v : Value} {xs : List Value} (h : w.ownsRow B e size v n xs) (hB : B' ≤ B) : w.ownsRow B' e size v n xs := by
  refine ⟨h.1, ?_⟩
  rcases h.2 with h0 | ⟨g, cap, cur, e, hb, r⟩
  · exact .inl h0
  · exact .inr ⟨g, cap, cur, e, Nat.le_trans hB hb, r⟩
theorem kpB_append {W w1 : World} {B r base e size k : Nat} {tmp : Obj} {v v' : Value} {xs : List Value} (hr : W.ownsRow base e size v k xs) (hB : B < base) (hne : B ≠ r) (hgrow : (W.alloc tmp).grownBy w1 v.ownBlock) : KpB B W (w1.setCell ⟨r, 0, none⟩ v') := fun u hu => by
  have hlt := World.block_lt_of_cell? W _ hu
  have h1 : (W.alloc tmp).cell? ⟨B, 0, none⟩ = some u := World.grownBy.cell (World.grownBy_alloc W tmp none) hu (by simp)
  have h2 := World.grownBy.cell hgrow h1 (fun e' => by have := (World.ownsRow.lt hr _ e'.symm).1; simp at this; omega)
  exact kpB_set hne v' u h2
theorem items_strs (p : Nat) {ls : List Bs} (h : ∀ x ∈ ls, OkL x) : (items p ls).map (fun x => Value.string x.1.1) = ls.map str := by
  induction ls generalizing p with
  | nil => rfl
  | cons x ls ih =>
    simp only [items, List.map_cons]
    rw [item_str p x (h x (by simp)), ih _ (fun y hy => h y (by simp [hy]))]
theorem below_drew {W w2 : World} (h : Below W.drew.heap.size W.drew w2) : Below W.heap.size W w2 := (Below.refl W.heap.size W).drew.trans h
theorem keeps_below {W w2 : World} (h : Below W.heap.size W w2) : KeepsOthers W w2 :=
  KeepsOthers.of_grownBy (row := none) ⟨h.os, h.tape, h.output, h.size, fun k hk _ => h.block k hk⟩ (fun j o e _ => by cases e)
theorem after_append {w W w2 w3 : World} {r B base k : Nat} {v v' : Value} {xs : List Value} {x : Value} {tmp : Obj} (hv : Boxed W r 22 v) (hrow : W.ownsRow base 9 1 v k xs) (hb2 : Below W.heap.size W w2) (hsb : base ≤ W.heap.size)
    (hown' : w3.ownsRow base 9 1 v' (k + 1) (xs ++ [x])) (hgrow : (w2.alloc tmp).grownBy w3 v.ownBlock) (hwr : w.heap.size ≤ r) (hwb : w.heap.size ≤ base) (hBb : B < base) (hBr : B ≠ r) (hB : Below w.heap.size w W) :
    (w3.cell? ⟨r, 0, none⟩ = some v ∧ w3.frozen? ⟨r, 0, none⟩ = false) ∧ KeepsOthers W (w3.setCell ⟨r, 0, none⟩ v') ∧ KpB B W (w3.setCell ⟨r, 0, none⟩ v') ∧ Boxed (w3.setCell ⟨r, 0, none⟩ v') r 22 v' ∧
      (w3.setCell ⟨r, 0, none⟩ v').ownsRow base 9 1 v' (k + 1) (xs ++ [x]) ∧ base ≤ (w3.setCell ⟨r, 0, none⟩ v').heap.size ∧ Below w.heap.size w (w3.setCell ⟨r, 0, none⟩ v') := by
  have hv2 : Boxed w2 r 22 v := (hb2.block _ hv.lt).trans hv
  have hrow2 := row_below hrow hb2
  have hs2 := hb2.size
  have hs := hB.size
  obtain ⟨b1, b2, b3, b4, b5⟩ := hv2.appended (by decide) (row_mono hrow2 hwb) (by omega) hwr (row_mono hown' hwb) hgrow
  refine ⟨⟨b1.cell, b1.frozen⟩, (keeps_below hb2).trans b4, kpB_t (kpB_below hb2 (by omega)) (kpB_append hrow2 hBb hBr hgrow), b2, hown'.kept (grownBy_setCell' w3 r v') (.inr (b1.not_row (by decide) hown').symm), ?_, hB.trans ((hb2.mono hs).trans b5)⟩
  have h3 := hgrow.size
  rw [World.size_setCell]
  simp at h3
  omega
theorem after_call {W w2 : World} {r t : Nat} {v : Value} (hv : Boxed W r t v) (hb : Below W.drew.heap.size W.drew w2) : w2.cell? ⟨r, 0, none⟩ = some v ∧ w2.frozen? ⟨r, 0, none⟩ = false ∧ W.heap.size ≤ w2.heap.size ∧ ∀ o, (w2.alloc o).cell? ⟨r, 0, none⟩ = some v := by
  have hv2 : Boxed w2 r t v := (hb.block _ hv.lt).trans hv
  exact ⟨hv2.cell, hv2.frozen, hb.size, fun o => (hv2.alloc o).cell⟩
theorem stepIn_append {F : Fence} {n : Nat} {P : Program} (w : World) {ops : Array Oper} {o : Oper} {a : Act} {K : Act → World → Prop} {Q : Exit → Act → World → Prop} {E : Prop}
    (hg : o.guard = none) (s x : Operand) (t : TypeId) (hop : o.op = Op.call { callee := Callee.builtin Builtin.append, args := #[s, x], argTypes := #[t, t] })
    (base : Nat) (e : TypeId) (i : TypeInfo) (z : Value) (size bytes : Nat) (h1 : P.underlying t = some (.slice e)) (h2 : P.info? e = some i) (h3 : i.zero = some z) (h4 : i.size = size) (h5 : i.bytes = bytes) (h6 : z.cells.size = size) (h7 : 0 < size)
    (v : Value) (k : Nat) (xs : List Value) (hs : a.eval s = v) (hown : w.ownsRow base e size v k xs) (ad : Addr) (m c : Nat) (news : List Value) (hx : a.eval x = .slice (some ad) m c) (hn : news.length = m * size)
    (hc : ∀ j u, news[j]? = some u → w.cell? (ad.add j) = some u) (h1c : ∀ u ∈ news, u.oneCell' = true) (b1 : k + m ≤ maxLen) (b2 : (k + m) * bytes ≤ 140737488355328) (b3 : base ≤ w.heap.size)
    (hK : ∀ v' w', w'.ownsRow base e size v' (k + m) (xs ++ news) → w.grownBy w' v.ownBlock → (v' = .slice none 0 0 ↔ v = .slice none 0 0 ∧ m = 0) → K (a.put o.dst v') w') :
    if Region.wanted o (yielded ops a.tmps) = true then Oper.wpIn F n P o a w K Q else E := by
  rw [if_pos (by simp [Region.wanted, hg])]
  obtain ⟨v', w', hrun, r1, r2, r3⟩ := run_append_own (P := P) w base t o.type e i z size bytes h1 h2 h3 h4 h5 h6 h7 v k xs hown ad m c news hn hc h1c b1 b2 b3
  unfold Oper.wpIn
  refine ⟨?_, ?_⟩
  · simp [Oper.about, hop, resolve, Target.leads, Sem.run_pure]
  · rw [Oper.semAt_plain F _ _ (by rw [hop]; intro c hc'; cases hc')]
    simp [execOp, hop, resolve, invoke, builtin, hs, hx, hrun, Result.andThen]
    exact hK _ _ r1 r2 r3
end Go.Proofs.Ytjoplnkagfkffaa
