/-
  Plain facts on parts that are gathered one behind the other, and on a hash's first eight bytes. No statement is proved here.
-/
import Derived.Test.YtiagngggnhdefaaDoorLawSum
import Derived.Laws.AppendOwn
import Derived.OwnWalk
namespace Go.Proofs.YtiagngggnhdefaaDoor
open Go.RowKit

theorem info9 : (Tryd.prog.info? 9).map (fun i => (i.zero, i.size, i.bytes)) = some (some (.string ⟨#[]⟩), 1, 16) := by kernel_rfl
theorem und40 : Tryd.prog.underlying 40 = some (.slice 9) := by kernel_rfl

/-- A part, cut to its first hundred bytes. -/
def cut (s : ByteArray) : ByteArray := if 100 < s.size then s.extract 0 100 else s
theorem cut_long {s : ByteArray} (h : 100 < s.size) : s.extract 0 100 = cut s := by unfold cut; rw [if_pos h]
theorem cut_short {s : ByteArray} (h : ¬ 100 < s.size) : s = cut s := by unfold cut; rw [if_neg h]
theorem cut_size (s : ByteArray) : (cut s).size ≤ 100 := by
  unfold cut
  split
  · simp; omega
  · omega
def cuts (ss : Nat → ByteArray) (k : Nat) : List (List UInt8) := (List.range k).map fun i => (cut (ss i)).data.toList
theorem cuts_succ (ss : Nat → ByteArray) (k : Nat) : cuts ss (k + 1) = cuts ss k ++ [(cut (ss k)).data.toList] := by
  simp [cuts, List.range_succ]
theorem cuts_length (ss : Nat → ByteArray) (k : Nat) : (cuts ss k).length = k := by simp [cuts]
theorem cuts_flat (ss : Nat → ByteArray) (k : Nat) : (cuts ss (k + 1)).flatten = (cuts ss k).flatten ++ (cut (ss k)).data.toList := by
  rw [cuts_succ, List.flatten_append, List.flatten_singleton]
theorem cuts_size (ss : Nat → ByteArray) (k : Nat) : (cuts ss k).flatten.length ≤ 100 * k := by
  induction k with
  | zero => simp [cuts]
  | succ k ih =>
    have := cut_size (ss k)
    rw [Lib.size_eq] at this
    rw [cuts_flat, List.length_append]
    omega
theorem str_of (t : ByteArray) : str t.data.toList = .string t := rfl

theorem own_below {w w' : World} {B : Nat} {e size : Nat} {v : Value} {n : Nat} {xs : List Value} (h : w.ownsRow B e size v n xs) (hb : Below w.heap.size w w') : w'.ownsRow B e size v n xs := by
  refine h.kept (row := none) ⟨hb.os, hb.tape, hb.output, hb.size, fun k hk _ => hb.block k hk⟩ ?_
  cases hv : v.ownBlock <;> simp

/-- The hash of the parts in a slice that the call owns. -/
theorem sum_own {w : World} {B : Nat} {v : Value} {n : Nat} {ps : List (List UInt8)} (h : w.ownsRow B 9 1 v n (ps.map str)) (hps : ps.length = n) (hl : ps.flatten.length ≤ 1000000) (hI : InitIn w) (hK : KeysIn w) (hn : n ≤ 1000000) :
    Calls Tryd.prog 16 #[v] w fun e w' => e = .returned (.agg (ub (sumI ps.flatten))) ∧ Below w.heap.size w w' := by
  have hcells := @World.ownsRow.cells w B 9 1 v n _ h
  rcases h.2 with ⟨rfl, rfl⟩ | ⟨g, cap, cur, rfl, hb, hg, hnc, hcm, hcs, htake⟩
  · exact sum_nil ps.flatten ps rfl hl 0 hps.symm rfl w hI hK
  · refine sum_some ps.flatten ps rfl hl g n cap hps.symm w hI hK (Array.getElem?_eq_some_iff.1 hg).1 (fun k hk => ?_) hn
    have := hcells (g := g) rfl k (str (ps.getD k [])) (by simp [hk])
    have e : (⟨g, 0, none⟩ : Addr).add k = ⟨g, k, none⟩ := by unfold Addr.add; split <;> simp_all
    rw [e] at this
    exact this

/-- What a round leaves. -/
theorem rel_next {w wr w1 : World} {o : Obj} {v v' : Value} {ss : Nat → ByteArray} {k : Nat} {t : ByteArray} (ht : t = cut (ss k))
    (hown : wr.ownsRow w.heap.size 9 1 v k ((cuts ss k).map str)) (hb : Below w.heap.size w wr)
    (hown' : w1.ownsRow w.heap.size 9 1 v' (k + 1) ((cuts ss k).map str ++ [.string t])) (hg : (wr.alloc o).grownBy w1 v.ownBlock) :
    w1.ownsRow w.heap.size 9 1 v' (k + 1) ((cuts ss (k + 1)).map str) ∧ Below w.heap.size w w1 := by
  constructor
  · rw [cuts_succ, List.map_append, List.map_cons, List.map_nil, str_of, ← ht]
    exact hown'
  · have ha : Below w.heap.size w (wr.alloc o) := hb.alloc hb.size _
    refine ha.trans ⟨hg.os, hg.tape, hg.output, hg.size, fun i hi => hg.block i (Nat.lt_of_lt_of_le hi ha.size) ?_⟩
    intro e
    have := (hown.lt i e.symm).1
    omega

/-- A hash's first eight bytes out of its point. -/
theorem pnt_byte (bs : List Int) (h : IsBytes bs) (i : Nat) (hi : i < 8) : pnt bs 8 / 2 ^ (56 - 8 * i) % 256 = bs.getD i 0 := by
  have h0 := h.get 0
  have h1 := h.get 1
  have h2 := h.get 2
  have h3 := h.get 3
  have h4 := h.get 4
  have h5 := h.get 5
  have h6 := h.get 6
  have h7 := h.get 7
  have e : pnt bs 8 = bs.getD 0 0 * 72057594037927936 + bs.getD 1 0 * 281474976710656 + bs.getD 2 0 * 1099511627776 + bs.getD 3 0 * 4294967296 + bs.getD 4 0 * 16777216 + bs.getD 5 0 * 65536 + bs.getD 6 0 * 256 + bs.getD 7 0 := by
    simp only [pnt]
    omega
  rw [e]
  clear e
  match i, hi with
  | 0, _ => show _ / 72057594037927936 % 256 = _; omega
  | 1, _ => show _ / 281474976710656 % 256 = _; omega
  | 2, _ => show _ / 1099511627776 % 256 = _; omega
  | 3, _ => show _ / 4294967296 % 256 = _; omega
  | 4, _ => show _ / 16777216 % 256 = _; omega
  | 5, _ => show _ / 65536 % 256 = _; omega
  | 6, _ => show _ / 256 % 256 = _; omega
  | 7, _ => show _ / 1 % 256 = _; omega
end Go.Proofs.YtiagngggnhdefaaDoor
