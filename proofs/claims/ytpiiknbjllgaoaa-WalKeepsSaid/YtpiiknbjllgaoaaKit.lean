/-
  What is left as it was where just some blocks, and new ones, may have turned; a file in memory, its bytes in a row of its own.
-/
import Derived.Test.YtpiiknbjllgaoaaProg
import Derived.Test.YtpiiknbjllgaoaaMath
import Derived.WalkKit
import Derived.OwnWalk
import Derived.Maps.AppendAt
import Derived.Lib.Hide
import Derived.Lib.AppendStr
import Derived.Laws.Rows
import Derived.Laws.AppendOwn
import Derived.Laws.EntriesVeiled
import Derived.Laws.StructEq
import Derived.BigFrame
import Derived.BigRegion
import Derived.BigQuiet
import Derived.IntWalk
import Derived.Outline
import Derived.StillTailTactics
import Derived.Deep.RegionLaw
import Derived.Deep.LoopGhost
import Derived.Deep.AppendLies
import Derived.Deep.RegionHeld3
import Derived.Deep.CutBlock
import Derived.Maps.RangeWalk
namespace Go.Proofs.Ytpiiknbjllgaoaa
open Go.RowKit
abbrev nop : Value := .pointer none
abbrev ptr (b : Nat) : Value := .pointer (some ⟨b, 0, none⟩)
abbrev str (l : Bs) : Value := .string ⟨l.toArray⟩
/-- Bytes as cells. -/
abbrev ub (l : Bs) : List Value := l.map fun b => Value.int .u8 (b.toNat : Int)
theorem size_list (s : ByteArray) : s.size = s.data.toList.length := by
  show s.data.size = _; simp
theorem str_of (t : ByteArray) : str t.data.toList = .string t := rfl
theorem info5 : (Try.prog.info? 5).map (fun i => (i.zero, i.size, i.bytes)) = some (some (.int .u8 0), 1, 1) := by kernel_rfl
/-- Of the blocks that were there just those of S may have turned. -/
structure Tr (S : Nat → Prop) (w w' : World) : Prop where
  os : w'.os = w.os
  tape : w'.tape = w.tape
  output : w'.output = w.output
  size : w.heap.size ≤ w'.heap.size
  block : ∀ k, k < w.heap.size → ¬ S k → w'.heap[k]? = w.heap[k]?
/-- S, and all that is new since the heap had so many blocks. -/
def andNew (S : Nat → Prop) (n : Nat) : Nat → Prop := fun k => S k ∨ n ≤ k
theorem Tr.refl (S : Nat → Prop) (w : World) : Tr S w w := ⟨rfl, rfl, rfl, Nat.le_refl _, fun _ _ _ => rfl⟩
theorem Tr.trans {S S' : Nat → Prop} {a b c : World} (h : Tr S a b) (k : Tr S' b c) (hS : ∀ i, S' i → S i ∨ a.heap.size ≤ i) : Tr S a c :=
  ⟨k.os.trans h.os, k.tape.trans h.tape, k.output.trans h.output, Nat.le_trans h.size k.size, fun i hi hs => (k.block i (Nat.lt_of_lt_of_le hi h.size) (fun h' => by rcases hS i h' with h' | h'; exact hs h'; omega)).trans (h.block i hi hs)⟩
theorem Tr.then {S : Nat → Prop} {a b c : World} (h : Tr S a b) (k : Tr S b c) : Tr S a c := h.trans k fun _ => .inl
theorem Tr.of_below {S : Nat → Prop} {w w' : World} (h : Below w.heap.size w w') : Tr S w w' := ⟨h.os, h.tape, h.output, h.size, fun k hk _ => h.block k hk⟩
theorem Tr.below {S : Nat → Prop} {w w' : World} {n : Nat} (h : Tr S w w') (hn : n ≤ w.heap.size) (hS : ∀ k, S k → n ≤ k) : Below n w w' :=
  ⟨h.os, h.tape, h.output, h.size, fun k hk => h.block k (by omega) (fun hs => by have := hS k hs; omega)⟩
theorem Tr.drew {S : Nat → Prop} {a w : World} (h : Tr S a w) : Tr S a w.drew := ⟨h.os, h.tape, h.output, h.size, h.block⟩
theorem Tr.alloc {S : Nat → Prop} {a w : World} (h : Tr S a w) (o : Obj) : Tr S a (w.alloc o) := h.then (Tr.of_below ((Below.refl _ w).alloc (Nat.le_refl _) o))
theorem Tr.setCell {S : Nat → Prop} {a w : World} (h : Tr S a w) {b i : Nat} (hb : S b ∨ a.heap.size ≤ b) (v : Value) : Tr S a (w.setCell ⟨b, i, none⟩ v) :=
  h.trans (S' := (· = b)) ⟨rfl, rfl, rfl, by simp, fun k _ hk => Below.heap_setCell _ _ _ _ hk⟩ (fun k hk => by rw [hk]; exact hb)
theorem Tr.grown {S : Nat → Prop} {a w w' : World} {row : Option Nat} (h : Tr S a w) (hg : w.grownBy w' row) (hr : ∀ k, row = some k → S k ∨ a.heap.size ≤ k) : Tr S a w' :=
  h.trans (S' := fun k => row = some k) ⟨hg.os, hg.tape, hg.output, hg.size, fun k hk hs => hg.block k hk (fun e => hs e.symm)⟩ hr
theorem Tr.mono {S S' : Nat → Prop} {w w' : World} (h : Tr S w w') (hS : ∀ k, S k → S' k) : Tr S' w w' := ⟨h.os, h.tape, h.output, h.size, fun k hk hs => h.block k hk (fun h' => hs (hS k h'))⟩
theorem Tr.cell {S : Nat → Prop} {w w' : World} (h : Tr S w w') {p : Addr} (hp : p.block < w.heap.size) (hS : ¬ S p.block) : w'.cell? p = w.cell? p := World.cell?_of_block (h.block _ hp hS)
theorem below_drewN (w : World) : ∀ n : Nat, Below w.heap.size w (w.drewN n)
  | 0 => Below.refl _ _
  | n + 1 => (below_drewN w n).drew
/-- A block of two cells. -/
def Blk (T : TypeId) (w : World) (B : Nat) (a c : Value) : Prop := w.heap[B]? = some (.cells #[a, c] T (0, 0))
section
variable {T : TypeId} {w : World} {B : Nat} {a b : Value} (h : Blk T w B a b)
include h
theorem Blk.lt : B < w.heap.size := (Array.getElem?_eq_some_iff.1 h).1
theorem Blk.cell0 : w.cell? ⟨B, 0, none⟩ = some a := by simp [World.cell?, show w.heap[B]? = _ from h]
theorem Blk.cell1 : w.cell? ⟨B, 1, none⟩ = some b := by simp [World.cell?, show w.heap[B]? = _ from h]
theorem Blk.frozen0 : w.frozen? ⟨B, 0, none⟩ = false := by simp [World.frozen?, show w.heap[B]? = _ from h]
theorem Blk.frozen1 : w.frozen? ⟨B, 1, none⟩ = false := by simp [World.frozen?, show w.heap[B]? = _ from h]
theorem Blk.set0 (v : Value) : Blk T (w.setCell ⟨B, 0, none⟩ v) B v b := heap_setCell_same w B 0 _ _ v h
theorem Blk.set1 (v : Value) : Blk T (w.setCell ⟨B, 1, none⟩ v) B a v := heap_setCell_same w B 1 _ _ v h
theorem Blk.tr {S : Nat → Prop} {w' : World} (ht : Tr S w w') (hS : ¬ S B) : Blk T w' B a b := (ht.block B h.lt hS).trans h
end
/-- A slice of bytes that lies somewhere in a block of one's own: these are its bytes; behind them it may have room. -/
def Row (w : World) (v : Value) (R : Bs) : Prop :=
  (v = .slice none 0 0 ∧ R = []) ∨ ∃ g k cap cur, v = .slice (some ⟨g, k, none⟩) R.length cap ∧ w.heap[g]? = some (.cells cur 5 (0, 0)) ∧ R.length ≤ cap ∧ cap ≤ maxLen ∧ k + cap ≤ cur.size ∧ (cur.toList.drop k).take R.length = ub R
theorem Row.lt {w : World} {v : Value} {R : Bs} (h : Row w v R) : ∀ j, v.ownBlock = some j → j < w.heap.size := by
  rcases h with ⟨rfl, _⟩ | ⟨g, k, cap, cur, rfl, hg, _⟩
  · intro j hj; simp [Value.ownBlock] at hj
  · intro j hj; simp [Value.ownBlock] at hj; subst hj; exact (Array.getElem?_eq_some_iff.1 hg).1
theorem Row.shape {w : World} {v : Value} {R : Bs} (h : Row w v R) : ∃ a cap, v = .slice a R.length cap ∧ R.length ≤ cap ∧ cap ≤ maxLen := by
  rcases h with ⟨rfl, rfl⟩ | ⟨g, k, cap, cur, rfl, hg, h1, h2, _⟩
  · exact ⟨none, 0, rfl, Nat.le_refl _, Nat.zero_le _⟩
  · exact ⟨_, cap, rfl, h1, h2⟩
theorem Row.not_blk {w : World} {v : Value} {R : Bs} (h : Row w v R) {T : TypeId} {B : Nat} {x y : Value} (hk : Blk T w B x y) (hT : T ≠ 5) : v.ownBlock ≠ some B := by
  rcases h with ⟨rfl, _⟩ | ⟨g, k, cap, cur, rfl, hg, _⟩
  · simp [Value.ownBlock]
  · intro e
    obtain rfl : g = B := by simpa [Value.ownBlock] using e
    rw [show w.heap[g]? = _ from hk] at hg
    simp at hg
    exact hT hg.2
theorem Row.tr {S : Nat → Prop} {w w' : World} {v : Value} {R : Bs} (h : Row w v R) (ht : Tr S w w') (hS : ∀ k, v.ownBlock = some k → ¬ S k) : Row w' v R := by
  rcases h with h | ⟨g, k, cap, cur, rfl, hg, r⟩
  · exact .inl h
  · exact .inr ⟨g, k, cap, cur, rfl, (ht.block g (Array.getElem?_eq_some_iff.1 hg).1 (hS g rfl)).trans hg, r⟩
theorem Row.cells {w : World} {a : Option Addr} {n cap : Nat} {R : Bs} (h : Row w (.slice a n cap) R) (hn : R ≠ []) : ∃ g k, a = some ⟨g, k, none⟩ ∧ n = R.length ∧ ∀ j x, R[j]? = some x → w.cell? ⟨g, k + j, none⟩ = some (.int .u8 (x.toNat : Int)) := by
  rcases h with ⟨_, h⟩ | ⟨g, k, cap, cur, e, hg, h1, h2, h3, ht⟩
  · exact absurd h hn
  · cases e
    refine ⟨g, k, rfl, rfl, fun j x hj => ?_⟩
    have hjl := (List.getElem?_eq_some_iff.1 hj).1
    have h5 : (ub R)[j]? = some (.int .u8 (x.toNat : Int)) := by simp [ub, hj]
    rw [← ht, List.getElem?_take, if_pos hjl, List.getElem?_drop] at h5
    rw [cell_of_row w g (k + j) cur 5 (0, 0) hg]
    simpa using h5
/-- What is left when so many bytes are taken from the beginning: with room behind, or without. -/
theorem Row.cut {w : World} {g k n cap : Nat} {R : Bs} (h : Row w (.slice (some ⟨g, k, none⟩) n cap) R) (m c : Nat) (hm : m < R.length) (hc : R.length ≤ c) (hc2 : c ≤ cap) : Row w (.slice (some ⟨g, k + m, none⟩) (R.length - m) (c - m)) (R.drop m) := by
  rcases h with ⟨h, _⟩ | ⟨g', k', cap', cur, e, hg, h1, h2, h3, ht⟩
  · cases h
  · cases e
    refine .inr ⟨g, k + m, c - m, cur, by rw [List.length_drop], hg, by rw [List.length_drop]; omega, by omega, by omega, ?_⟩
    have : ub (R.drop m) = (ub R).drop m := by simp [ub, List.map_drop]
    rw [this, ← ht, List.drop_take, List.drop_drop, List.length_drop]
theorem ub_append (a b : Bs) : ub (a ++ b) = ub a ++ ub b := by simp [ub]
theorem ub_str (s : ByteArray) : ub s.data.toList = Lib.strCells s := rfl
theorem ub_length (l : Bs) : (ub l).length = l.length := by simp [ub]
/-- There is room. -/
theorem run_app_room (w : World) (t u ty e : TypeId) (i : TypeInfo) (ht : Try.prog.underlying t = some (.slice e)) (hu : Try.prog.underlying u = some .string) (hi : Try.prog.info? e = some i) (hs1 : i.size = 1)
    (g k n cap : Nat) (cur : Array Value) (hg : w.heap[g]? = some (.cells cur e (0, 0))) (s : ByteArray) (hroom : n + s.size ≤ cap) (hfit : k + n + s.size ≤ cur.size) :
    (Builtin.append_ #[t, u] ty #[.slice (some ⟨g, k, none⟩) n cap, .string s]).run Try.prog w =
      .ok (.slice (some ⟨g, k, none⟩) (n + s.size) cap) (w.setRow g (cur.toList.take (k + n) ++ Lib.strCells s ++ cur.toList.drop (k + n + s.size)).toArray) := by
  have hf := Lib.run_firstCells_string (P := Try.prog) w 1 s
  have hst := run_storeCells_at Try.prog g (k + n) e (Lib.strCells s) 0 cur w hg (by rw [Lib.strCells_length]; omega) (Lib.strCells_oneCell s)
  simp only [Nat.add_zero, Lib.strCells_length] at hst
  simp [Builtin.append_, run_underlying ht, run_underlying hu, sizeOf, typeInfo, hi, hs1, Builtin.lenOf, hroom, hf, Addr.add_lit, hst]
theorem take_mid {α : Type} (a b c : List α) (k n : Nat) (hk : k ≤ a.length) (hn : a.length + b.length = k + n) : ((a ++ b ++ c).drop k).take n = a.drop k ++ b := by
  rw [List.append_assoc, List.drop_append_of_le_length hk, ← List.append_assoc, List.take_append_of_le_length (by simp; omega), List.take_of_length_le (by simp; omega)]
/-- Bytes are put behind: the row grows where it lies, or lies in new memory. -/
theorem run_app (w : World) (v : Value) (R : Bs) (hrow : Row w v R) (s : ByteArray) (hb : R.length + s.size ≤ 1000000000) :
    ∃ v' w', (Builtin.append_ #[31, 9] 31 #[v, .string s]).run Try.prog w = .ok v' w' ∧ Row w' v' (R ++ s.data.toList) ∧ w.grownBy w' v.ownBlock ∧ (v'.ownBlock = v.ownBlock ∨ v'.ownBlock = some w.heap.size) := by
  obtain ⟨i, hi, hz0, hz1, hz2⟩ := info_parts info5
  have hlen : (R ++ s.data.toList).length = R.length + s.size := by rw [List.length_append, size_list]
  have grown : ∀ (old : Nat), old < R.length + s.size → ∀ (row : Option Nat),
      Row (w.drew.alloc (.cells ((ub R).toArray ++ (Lib.strCells s).toArray ++ Builtin.zeroCells (Value.int .u8 0).cells (grownCap w (R.length + s.size) old 5 - (R.length + s.size))) 5))
        (.slice (some ⟨w.heap.size, 0, none⟩) (R.length + s.size) (grownCap w (R.length + s.size) old 5)) (R ++ s.data.toList) ∧
      w.grownBy (w.drew.alloc (.cells ((ub R).toArray ++ (Lib.strCells s).toArray ++ Builtin.zeroCells (Value.int .u8 0).cells (grownCap w (R.length + s.size) old 5 - (R.length + s.size))) 5)) row := by
    intro old ho row
    have hge := grownCap_ge w (R.length + s.size) old 5
    have hcm : grownCap w (R.length + s.size) old 5 ≤ maxLen := grownCap_le_maxLen w (R.length + s.size) old 5 (by unfold maxLen; omega)
    refine ⟨.inr ⟨w.heap.size, 0, _, _, by rw [hlen], heap_alloc_new w.drew _, by rw [hlen]; exact hge, hcm, ?_, ?_⟩, ⟨rfl, rfl, rfl, by simp, fun k hk _ => heap_alloc_old w.drew _ hk⟩⟩
    · have hz1 : (Value.int IntKind.u8 0).cells.size = 1 := rfl
      simp only [Array.size_append, List.size_toArray, size_zeroCells, hz1, ub_length, Lib.strCells_length]
      omega
    · rw [hlen, ub_append, ub_str]
      simp only [Array.toList_append, List.drop_zero, List.append_assoc]
      rw [← List.append_assoc, show R.length + s.size = (ub R ++ Lib.strCells s).length by rw [List.length_append, ub_length, Lib.strCells_length]]
      exact List.take_left
  rcases hrow with ⟨rfl, rfl⟩ | ⟨g, k, cap, cur, rfl, hg, hnc, hcm, hcs, htake⟩
  · by_cases hm : s.size = 0
    · have hn : Lib.strCells s = [] := List.eq_nil_of_length_eq_zero (by rw [Lib.strCells_length]; exact hm)
      have hn2 : s.data.toList = [] := List.eq_nil_of_length_eq_zero (by rw [← size_list]; exact hm)
      refine ⟨.slice none 0 0, w, ?_, .inl ⟨rfl, by rw [hn2]; rfl⟩, ⟨rfl, rfl, rfl, Nat.le_refl _, fun _ _ _ => rfl⟩, .inl rfl⟩
      have hf := Lib.run_firstCells_string (P := Try.prog) w 1 s
      rw [hm] at hf
      simp [Builtin.append_, run_underlying Try.underlying31, run_underlying Try.underlying9, sizeOf, typeInfo, hi, hz1, Builtin.lenOf, hm, hf]
    · have hr := run_append_nil_string (P := Try.prog) w 31 9 31 5 i (.int .u8 0) Try.underlying31 Try.underlying9 hi hz0 s (by omega) (by simp at hb; omega) (by rw [hz2]; simp at hb; omega)
      have hgr := grown 0 (by simp; omega) (Value.ownBlock (.slice none 0 0))
      simp only [List.length_nil, Nat.zero_add, List.nil_append, ub, List.map_nil, Array.empty_append] at hgr ⊢
      have e1 : (s.data.map fun b => Value.int .u8 b.toNat) = (Lib.strCells s).toArray := by
        apply Array.ext'
        simp [Lib.strCells]
      rw [e1] at hr
      exact ⟨_, _, hr, hgr.1, hgr.2, .inr rfl⟩
  · by_cases hroom : R.length + s.size ≤ cap
    · have hr := run_app_room w 31 9 31 5 i Try.underlying31 Try.underlying9 hi hz1 g k R.length cap cur hg s hroom (by omega)
      refine ⟨_, _, hr, .inr ⟨g, k, cap, _, by rw [hlen], setRow_heap w g cur _ 5 _ hg, by rw [hlen]; exact hroom, hcm, ?_, ?_⟩, ⟨rfl, rfl, rfl, by simp, fun k _ hk => setRow_other w g k _ (fun e => hk (by simp [Value.ownBlock, e]))⟩, .inl rfl⟩
      · simp only [List.size_toArray, List.length_append, List.length_take, List.length_drop, Array.length_toList, Lib.strCells_length]
        omega
      · rw [hlen, take_mid _ _ _ _ _ (by simp; omega) (by simp only [List.length_take, Array.length_toList, Lib.strCells_length]; omega), ub_append, ub_str, ← htake, List.drop_take]
        congr 2
        omega
    · have hn0 : ∀ j u, (ub R)[j]? = some u → w.cell? ((⟨g, k, none⟩ : Addr).add j) = some u := fun j u hu => by
        have hjl : j < R.length := by have := (List.getElem?_eq_some_iff.1 hu).1; rwa [ub_length] at this
        rw [Addr.add_lit, cell_of_row w g (k + j) cur 5 (0, 0) hg]
        rw [← htake, List.getElem?_take, if_pos hjl, List.getElem?_drop] at hu
        simpa using hu
      have hr := Lib.run_append_grow_string (P := Try.prog) w 31 9 31 5 i (.int .u8 0) Try.underlying31 Try.underlying9 hi hz0 ⟨g, k, none⟩ R.length cap (ub R) (by rw [hz1, ub_length]; omega) hn0 s (by omega) (by omega) (by rw [hz2]; exact growslice_fits (by omega) (by omega))
      have hgr := grown cap (by omega) (Value.ownBlock (.slice (some ⟨g, k, none⟩) R.length cap))
      exact ⟨_, _, hr, hgr.1, hgr.2, .inr rfl⟩
/-- .. at the operation, for the walk. -/
theorem wpList_app (w : World) {ops : Array Oper} {rest : List Oper} {o : Oper} {a : Act} {Q : Exit → Act → World → Prop} (hgd : o.guard = none) (sl x : Operand)
    (ho : o.op = .call { callee := .builtin .append, args := #[sl, x], argTypes := #[31, 9] }) (hty : o.type = 31)
    (v : Value) (R : Bs) (hs : a.eval sl = v) (hrow : Row w v R) (s : ByteArray) (hx : a.eval x = .string s) (hb : R.length + s.size ≤ 1000000000)
    (h : ∀ v' w', Row w' v' (R ++ s.data.toList) → w.grownBy w' v.ownBlock → (v'.ownBlock = v.ownBlock ∨ v'.ownBlock = some w.heap.size) → wpList Try.prog ops Q rest (a.put o.dst v') w') : wpList Try.prog ops Q (o :: rest) a w := by
  refine wpList_plain hgd fun K hK => ?_
  obtain ⟨v', w', hr, h2, h3, h4⟩ := run_app w v R hrow s hb
  unfold Oper.wp execOp
  simp only [ho, hty, resolve, invoke, builtin, Sem.run_bind, Sem.run_pure, Result.andThen_ok, List.map_toArray, List.map_cons, List.map_nil, hs, hx, hr]
  exact hK _ _ (h v' w' h2 h3 h4)
/-- A file in memory, its bytes at v; S: the blocks that are its own. -/
structure FV (S : Nat → Prop) (b : Nat) (R : Bs) (v : Value) (t : Nat) (w : World) : Prop where
  blk : Blk 85 w b v (.int .i64 (t : Int))
  row : Row w v R
  rowS : ∀ k, v.ownBlock = some k → S k
  own : S b
  le : t ≤ R.length
def Fd (S : Nat → Prop) (b : Nat) (R : Bs) (t : Nat) (w : World) : Prop := ∃ v, FV S b R v t w
section
variable {S : Nat → Prop} {b : Nat} {R : Bs} {v : Value} {t : Nat} {w : World}
theorem FV.tr {S2 : Nat → Prop} {w' : World} (h : FV S b R v t w) (ht : Tr S2 w w') (hd : ∀ k, k < w.heap.size → S k → ¬ S2 k) : FV S b R v t w' :=
  ⟨h.blk.tr ht (hd _ h.blk.lt h.own), h.row.tr ht (fun k hk => hd k (h.row.lt k hk) (h.rowS k hk)), h.rowS, h.own, h.le⟩
theorem FV.below {w' : World} (h : FV S b R v t w) (hb : Below w.heap.size w w') : FV S b R v t w' := h.tr (Tr.of_below (S := fun _ => False) hb) (fun _ _ _ h => h)
theorem FV.mono {S' : Nat → Prop} (h : FV S b R v t w) (hS : ∀ k, S k → S' k) : FV S' b R v t w := ⟨h.blk, h.row, fun k hk => hS k (h.rowS k hk), hS _ h.own, h.le⟩
/-- Just the blocks that it has. -/
abbrev its (b : Nat) (v : Value) : Nat → Prop := fun k => k = b ∨ v.ownBlock = some k
theorem FV.least (h : FV S b R v t w) : FV (its b v) b R v t w := ⟨h.blk, h.row, fun _ hk => .inr hk, .inl rfl, h.le⟩
theorem FV.lt (h : FV S b R v t w) : ∀ k, its b v k → k < w.heap.size := fun k hk => hk.elim (fun e => e ▸ h.blk.lt) (h.row.lt k)
end
theorem Fd.tr {S S2 : Nat → Prop} {b : Nat} {R : Bs} {t : Nat} {w w' : World} (h : Fd S b R t w) (ht : Tr S2 w w') (hd : ∀ k, k < w.heap.size → S k → ¬ S2 k) : Fd S b R t w' := let ⟨v, h⟩ := h; ⟨v, h.tr ht hd⟩
theorem Fd.below {S : Nat → Prop} {b : Nat} {R : Bs} {t : Nat} {w w' : World} (h : Fd S b R t w) (hb : Below w.heap.size w w') : Fd S b R t w' := let ⟨v, h⟩ := h; ⟨v, h.below hb⟩
theorem Fd.mono {S S' : Nat → Prop} {b : Nat} {R : Bs} {t : Nat} {w : World} (h : Fd S b R t w) (hS : ∀ k, S k → S' k) : Fd S' b R t w := let ⟨v, h⟩ := h; ⟨v, h.mono hS⟩
/-- Where the bytes grow: what the walk wants, and what is left. -/
theorem FV.app {S : Nat → Prop} {b : Nat} {R l : Bs} {v v' : Value} {t : Nat} {w w1 : World} (h : FV S b R v t w) (hrow : Row w1 v' (R ++ l)) (hg : w.grownBy w1 v.ownBlock) (hloc : v'.ownBlock = v.ownBlock ∨ v'.ownBlock = some w.heap.size) :
    Blk 85 w1 b v (.int .i64 (t : Int)) ∧ Fd (andNew S w.heap.size) b (R ++ l) t (w1.setCell ⟨b, 0, none⟩ v') ∧ Tr S w (w1.setCell ⟨b, 0, none⟩ v') := by
  have hk : Blk 85 w1 b v (.int .i64 (t : Int)) := (hg.block b h.blk.lt (fun e => h.row.not_blk h.blk (by decide) e.symm)).trans h.blk
  have ht : Tr S w w1 := (Tr.refl S w).grown hg (fun k e => .inl (h.rowS k e))
  have hne : v'.ownBlock ≠ some b := hrow.not_blk hk (by decide)
  have hl := h.le
  refine ⟨hk, ⟨v', hk.set0 v', hrow.tr (S := (· = b)) ((Tr.refl (· = b) w1).setCell (.inl rfl) _) (fun k e hkb => hne (by rw [e, hkb])), ?_, .inl h.own, by rw [List.length_append]; omega⟩, ht.setCell (.inl h.own) _⟩
  intro k e
  rcases hloc with e' | e'
  · exact .inl (h.rowS k (by rw [← e']; exact e))
  · rw [e'] at e; cases e; exact .inr (Nat.le_refl _)
end Go.Proofs.Ytpiiknbjllgaoaa
