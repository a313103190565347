/-
  Blocks of some cells; and what the reader of one part answers, for every text, place and size; no other older memory is changed.
-/
import Derived.Test.YtflpceaaelampaaName
import Derived.Test.YtflpceaaelampaaPk
import Derived.Test.YtflpceaaelampaaRecMath
namespace Go.Proofs.Ytflpceaaelampaa
open Go.RowKit
/-- A block of some cells. -/
def Ce (w : World) (B : Nat) (T : TypeId) (cs : Array Value) : Prop := w.heap[B]? = some (.cells cs T (0, 0))
section
variable {T : TypeId} {w : World} {B : Nat} {cs : Array Value} (h : Ce w B T cs)
include h
theorem Ce.lt : B < w.heap.size := (Array.getElem?_eq_some_iff.1 h).1
theorem Ce.cell (i : Nat) : w.cell? ⟨B, i, none⟩ = cs[i]? := by simp [World.cell?, show w.heap[B]? = _ from h]
theorem Ce.frozen (i : Nat) : w.frozen? ⟨B, i, none⟩ = false := by simp [World.frozen?, show w.heap[B]? = _ from h]
theorem Ce.tr {S : Nat → Prop} {w' : World} (ht : Tr S w w') (hS : ¬ S B) : Ce w' B T cs := (ht.block B h.lt hS).trans h
theorem Ce.below {w' : World} (hb : Below w.heap.size w w') : Ce w' B T cs := (hb.block B h.lt).trans h
end
theorem Ce.new (w : World) (T : TypeId) (cs : Array Value) : Ce (w.alloc (.cells cs T)) w.heap.size T cs := World.alloc_heap_new w _
theorem Ce.other {w : World} {B B' i : Nat} {T : TypeId} {cs : Array Value} (h : Ce w B T cs) (hne : B ≠ B') (v : Value) : Ce (w.setCell ⟨B', i, none⟩ v) B T cs := by
  have := heap_setCell_other w ⟨B', i, none⟩ B v (fun e => hne e)
  exact this.trans h
theorem Ce.set {w : World} {B i : Nat} {T : TypeId} {cs : Array Value} (h : Ce w B T cs) (v : Value) : Ce (w.setCell ⟨B, i, none⟩ v) B T (cs.setIfInBounds i v) := heap_setCell_same w B i _ _ v h
theorem boxed_under {w w' : World} {B : Nat} {T : TypeId} {v : Value} (h : Boxed w B T v) (hb : Below w.heap.size w w') : Boxed w' B T v := (hb.block B h.lt).trans h
theorem two_new_below (w : World) (o p : Obj) : Below w.heap.size w ((w.alloc o).alloc p) := ((Below.refl _ w).alloc (Nat.le_refl _) _).alloc (by simp) _
def OneB (ba be : Nat) : Nat → Prop := fun k => k = ba ∨ k = be
theorem one_left {w w1 : World} {ba be : Nat} {va ve : Value} (bb : Below w.heap.size w w1) (b1 : Boxed w1 ba 3 va) (b2 : Boxed w1 be 32 ve) (n1 : ba ≠ be)
    (m1 : ba ≠ w.heap.size) (m2 : be ≠ w.heap.size) (m3 : ba ≠ w.heap.size + 1) (m4 : be ≠ w.heap.size + 1) (v1 v2 v3 v4 v5 : Value) :
    let w' := ((((w1.setCell ⟨w.heap.size + 1, 1, none⟩ v1).setCell ⟨ba, 0, none⟩ v2).setCell ⟨be, 0, none⟩ v3).setCell ⟨w.heap.size, 0, none⟩ v4).setCell ⟨w.heap.size, 1, none⟩ v5
    Boxed w' ba 3 v2 ∧ Boxed w' be 32 v3 ∧ Tr (OneB ba be) w w' := by
  intro w'
  have k1 : Ce w1 ba 3 #[va] := b1
  have k2 : Ce w1 be 32 #[ve] := b2
  have j1 := ((((k1.other m3 v1 (i := 1)).set v2 (i := 0)).other n1 v3 (i := 0)).other m1 v4 (i := 0)).other m1 v5 (i := 1)
  have j2 := ((((k2.other m4 v1 (i := 1)).other n1.symm v2 (i := 0)).set v3 (i := 0)).other m2 v4 (i := 0)).other m2 v5 (i := 1)
  exact ⟨j1, j2, (((((Tr.of_below bb).setCell (.inr (by omega)) _).setCell (.inl (.inl rfl)) _).setCell (.inl (.inr rfl)) _).setCell (.inr (Nat.le_refl _)) _).setCell (.inr (Nat.le_refl _)) _⟩
set_option maxRecDepth 100000 in
set_option maxHeartbeats 3200000 in
theorem one_any (s : ByteArray) (hs : s.size ≤ 140737488351232) (a z : Int) (ha : -9223372036854775808 ≤ a ∧ a ≤ 9223372036854775807) (hz : -9223372036854775808 ≤ z ∧ z ≤ 9223372036854775807)
    (bd ba be : Nat) (x y : Value) (e0 : Int) (w : World) (hd : Ce w bd 77 #[.string s, x, y]) (h1 : Boxed w ba 3 (.int .i64 a)) (h2 : Boxed w be 32 (.int .i64 e0)) (hne : ba ≠ be ∧ bd ≠ ba ∧ bd ≠ be) :
    Calls Try.prog 86 #[.int .i64 z, ptr bd, ptr ba, ptr be] w fun e w' => e = .returned (.agg #[.bool (decide (z = -1)), str (rd1 s.data.toList a z).1]) ∧
      Boxed w' ba 3 (.int .i64 (rd1 s.data.toList a z).2.1) ∧ Boxed w' be 32 (.int .i64 (rd1 s.data.toList a z).2.2) ∧ Tr (OneB ba be) w w' := by
  have c0 := hd.cell 0
  have c1 := h1.cell
  have c2 := h2.cell
  have l0 := hd.lt
  have l1 := h1.lt
  have l2 := h2.lt
  simp at c0
  have HD := Lib.hid hd
  have H1 := Lib.hid h1
  have H2 := Lib.hid h2
  obtain ⟨n1, n2, n3⟩ := hne
  clear hd h1 h2
  by_cases g : z = -1
  · subst g
    rw [show rd1 s.data.toList a (-1) = ((nmI s.data.toList a).1, ((nmI s.data.toList a).2.1 : Int), ((nmI s.data.toList a).2.2 : Int)) from if_pos rfl]
    have C := fun w => name_any s hs a ha w
    unfold nmV at C
    generalize nmI s.data.toList a = N at C ⊢
    obtain ⟨n, p, e⟩ := N
    have HC := Lib.hid C
    clear C
    go_enter Try.func86, Try.ntmps86
    go_wp2_with fail
    refine (HC.out _).mono ?_
    rintro e w1 ⟨rfl, hb1⟩
    have hb := two_new_below w (.cells #[.bool false, .string ⟨#[]⟩] 64) (.cells #[.bool true, .string ⟨#[]⟩] 64)
    have bR := (Ce.new w 64 #[.bool false, .string ⟨#[]⟩]).below ((Below.refl _ _).alloc (Nat.le_refl _) (.cells #[.bool true, .string ⟨#[]⟩] 64)) |>.below hb1
    have bP := (Ce.new (w.alloc (.cells #[.bool false, .string ⟨#[]⟩] 64)) 64 #[.bool true, .string ⟨#[]⟩]).below hb1
    rw [World.size_alloc] at bP
    have bb := hb.trans (hb1.mono hb.size)
    have b1 := boxed_under H1.out bb
    have b2 := boxed_under H2.out bb
    clear hb hb1 c0 c1 c2
    have c1 := b1.cell
    have c2 := b2.cell
    have f1 := b1.frozen
    have f2 := b2.frozen
    have p0 := bP.cell 0
    have p1 := bP.cell 1
    have q0 := bP.frozen 0
    have q1 := bP.frozen 1
    have r0 := bR.cell 0
    have r1 := bR.cell 1
    have s0 := bR.frozen 0
    have s1 := bR.frozen 1
    simp at p0 p1 r0 r1
    have m1 : ba ≠ w.heap.size := by omega
    have m2 : be ≠ w.heap.size := by omega
    have m3 : ba ≠ w.heap.size + 1 := by omega
    have m4 : be ≠ w.heap.size + 1 := by omega
    have HH := Lib.hid (And.intro bb (And.intro b1 (And.intro b2 (And.intro bP bR))))
    clear bb b1 b2 bP bR
    go_wp2
    refine bodyPost_ret (v := .agg #[.bool true, str n]) (by simp [results, Try.results86, go_sem, r0, r1]) rfl ?_
    obtain ⟨bb, b1, b2, bP, bR⟩ := HH.out
    exact ⟨by simp, one_left bb b1 b2 n1 (by omega) (by omega) (by omega) (by omega) _ _ _ _ _⟩
  · have e1 : rd1 s.data.toList a z = (piS s.data.toList a z, piP s.data.toList a z, piR s.data.toList a z) := if_neg g
    rw [e1]
    have C := fun w => raw_any s hs a z ha hz w
    unfold pcV at C
    generalize piS s.data.toList a z = n at C ⊢
    generalize piP s.data.toList a z = p at C ⊢
    generalize piR s.data.toList a z = e at C ⊢
    have HC := Lib.hid C
    have q : (z == -1) = false := by simpa using g
    have q' : decide (z = -1) = false := by simpa using g
    rw [q']
    clear C e1 q'
    go_enter Try.func86, Try.ntmps86
    go_wp2_with fail
    refine (HC.out _).mono ?_
    rintro e w1 ⟨rfl, hb1⟩
    have hb := two_new_below w (.cells #[.bool false, .string ⟨#[]⟩] 64) (.cells #[.bool false, .string ⟨#[]⟩] 64)
    have bR := (Ce.new w 64 #[.bool false, .string ⟨#[]⟩]).below ((Below.refl _ _).alloc (Nat.le_refl _) (.cells #[.bool false, .string ⟨#[]⟩] 64)) |>.below hb1
    have bP := (Ce.new (w.alloc (.cells #[.bool false, .string ⟨#[]⟩] 64)) 64 #[.bool false, .string ⟨#[]⟩]).below hb1
    rw [World.size_alloc] at bP
    have bb := hb.trans (hb1.mono hb.size)
    have b1 := boxed_under H1.out bb
    have b2 := boxed_under H2.out bb
    clear hb hb1 c0 c1 c2
    have c1 := b1.cell
    have c2 := b2.cell
    have f1 := b1.frozen
    have f2 := b2.frozen
    have p0 := bP.cell 0
    have p1 := bP.cell 1
    have q0 := bP.frozen 0
    have q1 := bP.frozen 1
    have r0 := bR.cell 0
    have r1 := bR.cell 1
    have s0 := bR.frozen 0
    have s1 := bR.frozen 1
    simp at p0 p1 r0 r1
    have m1 : ba ≠ w.heap.size := by omega
    have m2 : be ≠ w.heap.size := by omega
    have m3 : ba ≠ w.heap.size + 1 := by omega
    have m4 : be ≠ w.heap.size + 1 := by omega
    have HH := Lib.hid (And.intro bb (And.intro b1 (And.intro b2 (And.intro bP bR))))
    clear bb b1 b2 bP bR
    go_wp2
    refine bodyPost_ret (v := .agg #[.bool false, str n]) (by simp [results, Try.results86, go_sem, r0, r1]) rfl ?_
    obtain ⟨bb, b1, b2, bP, bR⟩ := HH.out
    exact ⟨rfl, one_left bb b1 b2 n1 (by omega) (by omega) (by omega) (by omega) _ _ _ _ _⟩
end Go.Proofs.Ytflpceaaelampaa
