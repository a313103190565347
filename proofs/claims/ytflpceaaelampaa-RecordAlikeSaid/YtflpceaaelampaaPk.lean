/-
  A packer in memory: its bytes, what it knows, and which blocks are its own; what stays as it was.
-/
import Derived.Test.YtflpceaaelampaaFrame
import Derived.Test.YtflpceaaelampaaPMath
import Derived.Maps.OwnSet
import Derived.Maps.AppendAt
namespace Go.Proofs.Ytflpceaaelampaa
open Go.RowKit
/-- A block of two cells. -/
def Blk (T : TypeId) (w : World) (B : Nat) (a c : Value) : Prop := w.heap[B]? = some (.cells #[a, c] T (0, 0))
section
variable {T : TypeId} {w : World} {B : Nat} {a b : Value} (h : Blk T w B a b)
include h
theorem Blk.lt : B < w.heap.size := (Array.getElem?_eq_some_iff.1 h).1
theorem Blk.cell0 : w.cell? ⟨B, 0, none⟩ = some a := by simp [World.cell?, show w.heap[B]? = _ from h]
theorem Blk.cell1 : w.cell? ⟨B, 1, none⟩ = some b := by simp [World.cell?, show w.heap[B]? = _ from h]
theorem Blk.frozen0 : w.frozen? ⟨B, 0, none⟩ = false := by simp [World.frozen?, show w.heap[B]? = _ from h]
theorem Blk.frozen1 : w.frozen? ⟨B, 1, none⟩ = false := by simp [World.frozen?, show w.heap[B]? = _ from h]
theorem Blk.set0 (v : Value) : Blk T (w.setCell ⟨B, 0, none⟩ v) B v b := heap_setCell_same w B 0 _ _ v h
theorem Blk.set1 (v : Value) : Blk T (w.setCell ⟨B, 1, none⟩ v) B a v := heap_setCell_same w B 1 _ _ v h
theorem Blk.kept {w' : World} {row : Option Nat} (hg : w.grownBy w' row) (hne : some B ≠ row) : Blk T w' B a b := (hg.block B h.lt hne).trans h
theorem Blk.tr {S : Nat → Prop} {w' : World} (ht : Tr S w w') (hS : ¬ S B) : Blk T w' B a b := (ht.block B h.lt hS).trans h
theorem Blk.not_row {base k e size : Nat} {v : Value} {xs : List Value} (hr : w.ownsRow base e size v k xs) (he : T ≠ e) : some B ≠ v.ownBlock := by
  rcases hr.2 with ⟨rfl, _⟩ | ⟨g, cap, cur, rfl, _, hgb, _⟩
  · simp [Value.ownBlock]
  · intro e'
    obtain rfl : B = g := by simpa [Value.ownBlock] using e'
    rw [show w.heap[B]? = _ from h] at hgb
    simp at hgb
    exact he hgb.2
theorem Blk.row {base k e size : Nat} {v u : Value} {xs : List Value} (hr : w.ownsRow base e size v k xs) (he : T ≠ e) (i : Nat) : (w.setCell ⟨B, i, none⟩ u).ownsRow base e size v k xs :=
  hr.kept (row := some B) ⟨rfl, rfl, rfl, by simp, fun k _ hk => heap_setCell_other w ⟨B, i, none⟩ k u (fun e => hk (by simp [e]))⟩ (.inr (h.not_row hr he).symm)
end
theorem row_tr {S : Nat → Prop} {w w' : World} {base e size k : Nat} {v : Value} {xs : List Value} (hr : w.ownsRow base e size v k xs) (ht : Tr S w w') (hS : ∀ k, v.ownBlock = some k → ¬ S k) : w'.ownsRow base e size v k xs := ht.row hr hS
theorem row_lt {w : World} {base e size n : Nat} {v : Value} {xs : List Value} (h : w.ownsRow base e size v n xs) : ∀ j, v.ownBlock = some j → j < w.heap.size := fun j hj => (World.ownsRow.lt h j hj).2
/-- A map from suffixes to places. -/
abbrev Mo (w : World) (mb n : Nat) (D : DataW Unit) : Prop := w.ownsMap Try.prog 9 (plainElem (H := Unit) Try.prog 22) mb n D
def Says (D : DataW Unit) (L : Kn) : Prop := ∀ m : Bs, Maps.has D (.string m) = (find L m).isSome ∧ ∀ a, find L m = some a → D.atKey (.string m) (.lit (.int .u16 0)) = .lit (.int .u16 (a : Int))
def Mp (w : World) (mb n : Nat) (L : Kn) : Prop := ∃ D, Mo w mb n D ∧ Says D L
theorem Mp.lt {w : World} {mb n : Nat} {L : Kn} (h : Mp w mb n L) : mb < w.heap.size := let ⟨_, h, _⟩ := h; h.lt
theorem Mp.kept {w w' : World} {mb n : Nat} {L : Kn} {row : Option Nat} (h : Mp w mb n L) (hg : w.grownBy w' row) (hne : some mb ≠ row) : Mp w' mb n L := let ⟨D, h, hs⟩ := h; ⟨D, h.kept hg hne, hs⟩
theorem Mp.tr {S : Nat → Prop} {w w' : World} {mb n : Nat} {L : Kn} (h : Mp w mb n L) (ht : Tr S w w') (hS : ¬ S mb) : Mp w' mb n L := by
  obtain ⟨D, h, hs⟩ := h
  have hl := h.lt
  obtain ⟨es, clock, hb, r⟩ := h
  exact ⟨D, ⟨es, clock, (ht.block mb hl hS).trans hb, r⟩, hs⟩
theorem Mp.mono {w : World} {mb n n' : Nat} {L : Kn} (h : Mp w mb n L) (hn : n ≤ n') : Mp w mb n' L := let ⟨D, h, hs⟩ := h; ⟨D, h.mono hn, hs⟩
theorem Mp.not_row {w : World} {mb n : Nat} {L : Kn} (h : Mp w mb n L) {base k e size : Nat} {v : Value} {xs : List Value} (hr : w.ownsRow base e size v k xs) : some mb ≠ v.ownBlock := by
  obtain ⟨D, ⟨es, clock, hb, _⟩, _⟩ := h
  rcases hr.2 with ⟨rfl, _⟩ | ⟨g, cap, cur, rfl, _, hgb, _⟩
  · simp [Value.ownBlock]
  · intro e'
    obtain rfl : mb = g := by simpa [Value.ownBlock] using e'
    rw [hb] at hgb
    cases hgb
theorem Mp.not_blk {w : World} {mb n : Nat} {L : Kn} (h : Mp w mb n L) {T : TypeId} {b : Nat} {x y : Value} (hk : Blk T w b x y) : mb ≠ b := by
  obtain ⟨D, ⟨es, clock, hb, _⟩, _⟩ := h
  rintro rfl
  rw [show w.heap[mb]? = _ from hk] at hb
  cases hb
/-- What stands in the packer's second field. -/
def MpV (S : Nat → Prop) (mv : Value) (n : Nat) (L : Kn) (w : World) : Prop := (mv = .map none ∧ L = []) ∨ ∃ mb, mv = .map (some mb) ∧ S mb ∧ Mp w mb n L
/-- A packer: its two fields, its bytes, what it knows; S: the blocks that are its own. -/
structure PV (S : Nat → Prop) (b : Nat) (B : Bs) (L : Kn) (sv mv : Value) (w : World) : Prop where
  blk : Blk 95 w b sv mv
  row : w.ownsRow 0 5 1 sv B.length (ub B)
  rowS : ∀ k, sv.ownBlock = some k → S k
  own : S b
  map : MpV S mv L.length L w
def PK (S : Nat → Prop) (b : Nat) (B : Bs) (L : Kn) (w : World) : Prop := ∃ sv mv, PV S b B L sv mv w
theorem MpV.tr {S S2 : Nat → Prop} {mv : Value} {n : Nat} {L : Kn} {w w' : World} (h : MpV S mv n L w) (ht : Tr S2 w w') (hd : ∀ k, k < w.heap.size → S k → ¬ S2 k) : MpV S mv n L w' := by
  rcases h with h | ⟨mb, e, hs, hm⟩
  · exact .inl h
  · exact .inr ⟨mb, e, hs, hm.tr ht (hd _ hm.lt hs)⟩
theorem PV.tr {S S2 : Nat → Prop} {b : Nat} {B : Bs} {L : Kn} {sv mv : Value} {w w' : World} (h : PV S b B L sv mv w) (ht : Tr S2 w w') (hd : ∀ k, k < w.heap.size → S k → ¬ S2 k) : PV S b B L sv mv w' :=
  ⟨h.blk.tr ht (hd _ h.blk.lt h.own), h.row |> fun r => row_tr r ht (fun k hk => hd _ (row_lt r k hk) (h.rowS k hk)), h.rowS, h.own, h.map.tr ht hd⟩
theorem PV.below {S : Nat → Prop} {b : Nat} {B : Bs} {L : Kn} {sv mv : Value} {w w' : World} (h : PV S b B L sv mv w) (hb : Below w.heap.size w w') : PV S b B L sv mv w' :=
  h.tr (Tr.of_below (S := fun _ => False) hb) (fun _ _ _ h => h)
theorem PK.tr {S S2 : Nat → Prop} {b : Nat} {B : Bs} {L : Kn} {w w' : World} (h : PK S b B L w) (ht : Tr S2 w w') (hd : ∀ k, k < w.heap.size → S k → ¬ S2 k) : PK S b B L w' := let ⟨sv, mv, h⟩ := h; ⟨sv, mv, h.tr ht hd⟩
theorem PK.below {S : Nat → Prop} {b : Nat} {B : Bs} {L : Kn} {w w' : World} (h : PK S b B L w) (hb : Below w.heap.size w w') : PK S b B L w' := let ⟨sv, mv, h⟩ := h; ⟨sv, mv, h.below hb⟩
theorem PV.mono {S S' : Nat → Prop} {b : Nat} {B : Bs} {L : Kn} {sv mv : Value} {w : World} (h : PV S b B L sv mv w) (hS : ∀ k, S k → S' k) : PV S' b B L sv mv w :=
  ⟨h.blk, h.row, fun k hk => hS k (h.rowS k hk), hS _ h.own, by
    rcases h.map with h | ⟨mb, e, hs, hm⟩
    · exact .inl h
    · exact .inr ⟨mb, e, hS _ hs, hm⟩⟩
theorem PK.mono {S S' : Nat → Prop} {b : Nat} {B : Bs} {L : Kn} {w : World} (h : PK S b B L w) (hS : ∀ k, S k → S' k) : PK S' b B L w := let ⟨sv, mv, h⟩ := h; ⟨sv, mv, h.mono hS⟩
/-- What a call leaves: the packer, in its own blocks and new ones; all else as it was. -/
def Lft (S : Nat → Prop) (b : Nat) (B : Bs) (L : Kn) (w w' : World) : Prop := PK (andNew S w.heap.size) b B L w' ∧ Tr S w w'
theorem Lft.trans {S : Nat → Prop} {b : Nat} {B B' : Bs} {L L' : Kn} {w1 w2 w3 : World} (h : Lft S b B L w1 w2) (k : Lft (andNew S w1.heap.size) b B' L' w2 w3) : Lft S b B' L' w1 w3 := by
  refine ⟨k.1.mono fun i hi => ?_, h.2.trans k.2 fun i hi => hi⟩
  rcases hi with hi | hi
  · exact hi
  · exact .inr (Nat.le_trans h.2.size hi)
theorem Lft.pre {S : Nat → Prop} {b : Nat} {B : Bs} {L : Kn} {w1 w2 w3 : World} (h : Below w1.heap.size w1 w2) (k : Lft S b B L w2 w3) : Lft S b B L w1 w3 :=
  ⟨k.1.mono fun i hi => by
    rcases hi with hi | hi
    · exact .inl hi
    · exact .inr (Nat.le_trans h.size hi), (Tr.of_below h).then k.2⟩
theorem Lft.refl {S : Nat → Prop} {b : Nat} {B : Bs} {L : Kn} {w : World} (h : PK S b B L w) : Lft S b B L w w := ⟨h.mono fun _ => .inl, Tr.refl _ _⟩
theorem Lft.post {S : Nat → Prop} {b : Nat} {B : Bs} {L : Kn} {w1 w2 w3 : World} (h : Lft S b B L w1 w2) (k : Below w2.heap.size w2 w3) : Lft S b B L w1 w3 := ⟨h.1.below k, h.2.then (Tr.of_below k)⟩
/-- Where the bytes grow: what the walk wants, and what is left. -/
theorem PV.append {S : Nat → Prop} {b : Nat} {B l : Bs} {L : Kn} {sv mv v' : Value} {w wa w1 : World} (h : PV S b B L sv mv w) (ha : Below w.heap.size w wa)
    (hown : w1.ownsRow 0 5 1 v' (B.length + l.length) (ub B ++ ub l)) (hg : wa.grownBy w1 sv.ownBlock) (hloc : v'.ownBlock = sv.ownBlock ∨ v'.ownBlock = some wa.heap.size ∨ v'.ownBlock = none) :
    Blk 95 w1 b sv mv ∧ Lft S b (B ++ l) L w (w1.setCell ⟨b, 0, none⟩ v') := by
  have h2 := h.below ha
  have hk1 := h2.blk.kept hg (h2.blk.not_row h2.row (by decide))
  have ht : Tr S w w1 := (Tr.of_below ha).grown hg (fun k hk => .inl (h.rowS k hk))
  refine ⟨hk1, ⟨v', mv, ⟨hk1.set0 v', ?_, ?_, .inl h.own, ?_⟩⟩, ht.setCell (.inl h.own) _⟩
  · have := hk1.row hown (by decide) (u := v') 0
    rw [List.length_append, ub, List.map_append]
    exact this
  · intro k hk
    rcases hloc with e | e | e
    · exact .inl (h.rowS k (by rw [← e]; exact hk))
    · rw [hk] at e; cases e; exact .inr ha.size
    · rw [hk] at e; cases e
  · rcases h2.map with hm | ⟨mb, e, hs, hm⟩
    · exact .inl hm
    · refine .inr ⟨mb, e, .inl hs, ?_⟩
      have m1 := hm.kept hg (hm.not_row h2.row)
      exact m1.tr (S := (· = b)) (Tr.setCell (S := (· = b)) (Tr.refl _ _) (.inl rfl) _) (fun e => m1.not_blk hk1 e)
/-- Where a text's bytes are put behind a row: the new row is the old one's, or new. -/
theorem run_app_string (w : World) (t u ty e : TypeId) (i : TypeInfo) (ht : Try.prog.underlying t = some (.slice e)) (hu : Try.prog.underlying u = some .string) (hi : Try.prog.info? e = some i) (hz : i.zero = some (.int .u8 0))
    (hsize : i.size = 1) (hby : i.bytes = 1) (v : Value) (n : Nat) (xs : List Value) (hown : w.ownsRow 0 e 1 v n xs) (s : ByteArray) (h63 : n + s.size ≤ 1000000000) :
    ∃ v' w', (Builtin.append_ #[t, u] ty #[v, .string s]).run Try.prog w = .ok v' w' ∧ w'.ownsRow 0 e 1 v' (n + s.size) (xs ++ Lib.strCells s) ∧ w.grownBy w' v.ownBlock ∧ (v'.ownBlock = v.ownBlock ∨ v'.ownBlock = some w.heap.size ∨ v'.ownBlock = none) := by
  obtain ⟨v', w', hr, h2, h3, h4⟩ := Lib.run_append_own_string (P := Try.prog) w 0 t u ty e i ht hu hi hz hsize hby v n xs hown s (by unfold maxLen; omega) (by omega) (Nat.zero_le _)
  refine ⟨v', w', hr, h2, h3, ?_⟩
  rcases hown.2 with ⟨rfl, rfl⟩ | ⟨g, cap, cur, rfl, hbg, hg, hnc, hcm, hcs, htake⟩
  · by_cases hm : s.size = 0
    · rw [h4.2 ⟨rfl, hm⟩]; exact .inl rfl
    · have h := run_append_nil_string (P := Try.prog) w t u ty e i (.int .u8 0) ht hu hi hz s (by omega) (by omega) (by rw [hby]; omega)
      rw [h] at hr
      cases hr
      exact .inr (.inl rfl)
  · by_cases hroom : n + s.size ≤ cap
    · have h := Lib.run_append_room_string (P := Try.prog) w t u ty e i ht hu hi hsize g n cap cur hg s hroom (by omega)
      rw [h] at hr
      cases hr
      exact .inl rfl
    · have holds : ∀ j u, xs[j]? = some u → w.cell? ((⟨g, 0, none⟩ : Addr).add j) = some u := World.ownsRow.cells hown (g := g) rfl
      have hxl : xs.length = n := by simpa using hown.1
      have h := Lib.run_append_grow_string (P := Try.prog) w t u ty e i (.int .u8 0) ht hu hi hz ⟨g, 0, none⟩ n cap xs (by rw [hsize]; simpa using hxl) holds s (by omega) (by omega) (by rw [hby]; exact growslice_fits (by omega) (by omega))
      rw [h] at hr
      cases hr
      exact .inr (.inl rfl)
theorem wpList_app_string (w : World) {ops : Array Oper} {rest : List Oper} {o : Oper} {a : Act} {Q : Exit → Act → World → Prop} (hgd : o.guard = none) (sl x : Operand) (t u : TypeId)
    (ho : o.op = .call { callee := .builtin .append, args := #[sl, x], argTypes := #[t, u] })
    (e : TypeId) (i : TypeInfo) (ht : Try.prog.underlying t = some (.slice e)) (hu : Try.prog.underlying u = some .string) (hi : Try.prog.info? e = some i) (hz : i.zero = some (.int .u8 0))
    (hsize : i.size = 1) (hby : i.bytes = 1)
    (v : Value) (n : Nat) (xs : List Value) (hs : a.eval sl = v) (hown : w.ownsRow 0 e 1 v n xs) (s : ByteArray) (hx : a.eval x = .string s) (h63 : n + s.size ≤ 1000000000)
    (h : ∀ v' w', w'.ownsRow 0 e 1 v' (n + s.size) (xs ++ Lib.strCells s) → w.grownBy w' v.ownBlock → (v'.ownBlock = v.ownBlock ∨ v'.ownBlock = some w.heap.size ∨ v'.ownBlock = none) → wpList Try.prog ops Q rest (a.put o.dst v') w') : wpList Try.prog ops Q (o :: rest) a w := by
  refine wpList_plain hgd fun K hK => ?_
  obtain ⟨v', w', hr, h2, h3, h4⟩ := run_app_string w t u o.type e i ht hu hi hz hsize hby v n xs hown s h63
  unfold Oper.wp execOp
  simp only [ho, resolve, invoke, builtin, Sem.run_bind, Sem.run_pure, Result.andThen_ok, List.map_toArray, List.map_cons, List.map_nil, hs, hx, hr]
  exact hK _ _ (h v' w' h2 h3 h4)
end Go.Proofs.Ytflpceaaelampaa
