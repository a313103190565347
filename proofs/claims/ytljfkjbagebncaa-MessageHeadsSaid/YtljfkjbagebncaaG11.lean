/-
  OnePart: Blocks of some cells; and what the reader of one part answers, for every text, place and size; no other older memory is changed.
  ReadParts: What the reader of parts answers, for every text, place and sizes; no older memory is changed.
-/
import Derived.Test.YtljfkjbagebncaaG07
import Derived.Test.YtljfkjbagebncaaG08
import Derived.Test.YtljfkjbagebncaaG10
import Derived.Test.YtljfkjbagebncaaG04

/- OnePart -/
namespace Go.Proofs.Ytljfkjbagebncaa
open Go.RowKit
/-- A block of some cells. -/
def Ce (w : World) (B : Nat) (T : TypeId) (cs : Array Value) : Prop := w.heap[B]? = some (.cells cs T (0, 0))
section
variable {T : TypeId} {w : World} {B : Nat} {cs : Array Value} (h : Ce w B T cs)
include h
theorem Ce.lt : B < w.heap.size := (Array.getElem?_eq_some_iff.1 h).1
theorem Ce.cell (i : Nat) : w.cell? ⟨B, i, none⟩ = cs[i]? := by simp [World.cell?, show w.heap[B]? = _ from h]
theorem Ce.frozen (i : Nat) : w.frozen? ⟨B, i, none⟩ = false := by simp [World.frozen?, show w.heap[B]? = _ from h]
theorem Ce.tr {S : Nat → Prop} {w' : World} (ht : Tr S w w') (hS : ¬ S B) : Ce w' B T cs := (ht.block B h.lt hS).trans h
theorem Ce.below {w' : World} (hb : Below w.heap.size w w') : Ce w' B T cs := (hb.block B h.lt).trans h
end
theorem Ce.new (w : World) (T : TypeId) (cs : Array Value) : Ce (w.alloc (.cells cs T)) w.heap.size T cs := World.alloc_heap_new w _
theorem Ce.other {w : World} {B B' i : Nat} {T : TypeId} {cs : Array Value} (h : Ce w B T cs) (hne : B ≠ B') (v : Value) : Ce (w.setCell ⟨B', i, none⟩ v) B T cs := by
  have := heap_setCell_other w ⟨B', i, none⟩ B v (fun e => hne e)
  exact this.trans h
theorem Ce.set {w : World} {B i : Nat} {T : TypeId} {cs : Array Value} (h : Ce w B T cs) (v : Value) : Ce (w.setCell ⟨B, i, none⟩ v) B T (cs.setIfInBounds i v) := heap_setCell_same w B i _ _ v h
theorem boxed_under {w w' : World} {B : Nat} {T : TypeId} {v : Value} (h : Boxed w B T v) (hb : Below w.heap.size w w') : Boxed w' B T v := (hb.block B h.lt).trans h
theorem two_new_below (w : World) (o p : Obj) : Below w.heap.size w ((w.alloc o).alloc p) := ((Below.refl _ w).alloc (Nat.le_refl _) _).alloc (by simp) _
def OneB (ba be : Nat) : Nat → Prop := fun k => k = ba ∨ k = be
theorem one_left {w w1 : World} {ba be : Nat} {va ve : Value} (bb : Below w.heap.size w w1) (b1 : Boxed w1 ba 3 va) (b2 : Boxed w1 be 29 ve) (n1 : ba ≠ be)
    (m1 : ba ≠ w.heap.size) (m2 : be ≠ w.heap.size) (m3 : ba ≠ w.heap.size + 1) (m4 : be ≠ w.heap.size + 1) (v1 v2 v3 v4 v5 : Value) :
    let w' := ((((w1.setCell ⟨w.heap.size + 1, 1, none⟩ v1).setCell ⟨ba, 0, none⟩ v2).setCell ⟨be, 0, none⟩ v3).setCell ⟨w.heap.size, 0, none⟩ v4).setCell ⟨w.heap.size, 1, none⟩ v5
    Boxed w' ba 3 v2 ∧ Boxed w' be 29 v3 ∧ Tr (OneB ba be) w w' := by
  intro w'
  have k1 : Ce w1 ba 3 #[va] := b1
  have k2 : Ce w1 be 29 #[ve] := b2
  have j1 := ((((k1.other m3 v1 (i := 1)).set v2 (i := 0)).other n1 v3 (i := 0)).other m1 v4 (i := 0)).other m1 v5 (i := 1)
  have j2 := ((((k2.other m4 v1 (i := 1)).other n1.symm v2 (i := 0)).set v3 (i := 0)).other m2 v4 (i := 0)).other m2 v5 (i := 1)
  exact ⟨j1, j2, (((((Tr.of_below bb).setCell (.inr (by omega)) _).setCell (.inl (.inl rfl)) _).setCell (.inl (.inr rfl)) _).setCell (.inr (Nat.le_refl _)) _).setCell (.inr (Nat.le_refl _)) _⟩
set_option maxRecDepth 100000 in
set_option maxHeartbeats 3200000 in
theorem one_any (s : ByteArray) (hs : s.size ≤ 140737488351232) (a z : Int) (ha : -9223372036854775808 ≤ a ∧ a ≤ 9223372036854775807) (hz : -9223372036854775808 ≤ z ∧ z ≤ 9223372036854775807)
    (bd ba be : Nat) (x y : Value) (e0 : Int) (w : World) (hd : Ce w bd 105 #[.string s, x, y]) (h1 : Boxed w ba 3 (.int .i64 a)) (h2 : Boxed w be 29 (.int .i64 e0)) (hne : ba ≠ be ∧ bd ≠ ba ∧ bd ≠ be) :
    Calls Try.prog 121 #[.int .i64 z, ptr bd, ptr ba, ptr be] w fun e w' => e = .returned (.agg #[.bool (decide (z = -1)), str (rd1 s.data.toList a z).1]) ∧
      Boxed w' ba 3 (.int .i64 (rd1 s.data.toList a z).2.1) ∧ Boxed w' be 29 (.int .i64 (rd1 s.data.toList a z).2.2) ∧ Tr (OneB ba be) w w' := by
  have c0 := hd.cell 0
  have c1 := h1.cell
  have c2 := h2.cell
  have l0 := hd.lt
  have l1 := h1.lt
  have l2 := h2.lt
  simp at c0
  have HD := Lib.hid hd
  have H1 := Lib.hid h1
  have H2 := Lib.hid h2
  obtain ⟨n1, n2, n3⟩ := hne
  clear hd h1 h2
  by_cases g : z = -1
  · subst g
    rw [show rd1 s.data.toList a (-1) = ((nmI s.data.toList a).1, ((nmI s.data.toList a).2.1 : Int), ((nmI s.data.toList a).2.2 : Int)) from if_pos rfl]
    have C := fun w => name_any s hs a ha w
    unfold nmV at C
    generalize nmI s.data.toList a = N at C ⊢
    obtain ⟨n, p, e⟩ := N
    have HC := Lib.hid C
    clear C
    go_enter Try.func121, Try.ntmps121
    go_wp2_with fail
    refine (HC.out _).mono ?_
    rintro e w1 ⟨rfl, hb1⟩
    have hb := two_new_below w (.cells #[.bool false, .string ⟨#[]⟩] 138) (.cells #[.bool true, .string ⟨#[]⟩] 138)
    have bR := (Ce.new w 138 #[.bool false, .string ⟨#[]⟩]).below ((Below.refl _ _).alloc (Nat.le_refl _) (.cells #[.bool true, .string ⟨#[]⟩] 138)) |>.below hb1
    have bP := (Ce.new (w.alloc (.cells #[.bool false, .string ⟨#[]⟩] 138)) 138 #[.bool true, .string ⟨#[]⟩]).below hb1
    rw [World.size_alloc] at bP
    have bb := hb.trans (hb1.mono hb.size)
    have b1 := boxed_under H1.out bb
    have b2 := boxed_under H2.out bb
    clear hb hb1 c0 c1 c2
    have c1 := b1.cell
    have c2 := b2.cell
    have f1 := b1.frozen
    have f2 := b2.frozen
    have p0 := bP.cell 0
    have p1 := bP.cell 1
    have q0 := bP.frozen 0
    have q1 := bP.frozen 1
    have r0 := bR.cell 0
    have r1 := bR.cell 1
    have s0 := bR.frozen 0
    have s1 := bR.frozen 1
    simp at p0 p1 r0 r1
    have m1 : ba ≠ w.heap.size := by omega
    have m2 : be ≠ w.heap.size := by omega
    have m3 : ba ≠ w.heap.size + 1 := by omega
    have m4 : be ≠ w.heap.size + 1 := by omega
    have HH := Lib.hid (And.intro bb (And.intro b1 (And.intro b2 (And.intro bP bR))))
    clear bb b1 b2 bP bR
    go_wp2
    refine bodyPost_ret (v := .agg #[.bool true, str n]) (by simp [results, Try.results121, go_sem, r0, r1]) rfl ?_
    obtain ⟨bb, b1, b2, bP, bR⟩ := HH.out
    exact ⟨by simp, one_left bb b1 b2 n1 (by omega) (by omega) (by omega) (by omega) _ _ _ _ _⟩
  · have e1 : rd1 s.data.toList a z = (piS s.data.toList a z, piP s.data.toList a z, piR s.data.toList a z) := if_neg g
    rw [e1]
    have C := fun w => raw_any s hs a z ha hz w
    unfold pcV at C
    generalize piS s.data.toList a z = n at C ⊢
    generalize piP s.data.toList a z = p at C ⊢
    generalize piR s.data.toList a z = e at C ⊢
    have HC := Lib.hid C
    have q : (z == -1) = false := by simpa using g
    have q' : decide (z = -1) = false := by simpa using g
    rw [q']
    clear C e1 q'
    go_enter Try.func121, Try.ntmps121
    go_wp2_with fail
    refine (HC.out _).mono ?_
    rintro e w1 ⟨rfl, hb1⟩
    have hb := two_new_below w (.cells #[.bool false, .string ⟨#[]⟩] 138) (.cells #[.bool false, .string ⟨#[]⟩] 138)
    have bR := (Ce.new w 138 #[.bool false, .string ⟨#[]⟩]).below ((Below.refl _ _).alloc (Nat.le_refl _) (.cells #[.bool false, .string ⟨#[]⟩] 138)) |>.below hb1
    have bP := (Ce.new (w.alloc (.cells #[.bool false, .string ⟨#[]⟩] 138)) 138 #[.bool false, .string ⟨#[]⟩]).below hb1
    rw [World.size_alloc] at bP
    have bb := hb.trans (hb1.mono hb.size)
    have b1 := boxed_under H1.out bb
    have b2 := boxed_under H2.out bb
    clear hb hb1 c0 c1 c2
    have c1 := b1.cell
    have c2 := b2.cell
    have f1 := b1.frozen
    have f2 := b2.frozen
    have p0 := bP.cell 0
    have p1 := bP.cell 1
    have q0 := bP.frozen 0
    have q1 := bP.frozen 1
    have r0 := bR.cell 0
    have r1 := bR.cell 1
    have s0 := bR.frozen 0
    have s1 := bR.frozen 1
    simp at p0 p1 r0 r1
    have m1 : ba ≠ w.heap.size := by omega
    have m2 : be ≠ w.heap.size := by omega
    have m3 : ba ≠ w.heap.size + 1 := by omega
    have m4 : be ≠ w.heap.size + 1 := by omega
    have HH := Lib.hid (And.intro bb (And.intro b1 (And.intro b2 (And.intro bP bR))))
    clear bb b1 b2 bP bR
    go_wp2
    refine bodyPost_ret (v := .agg #[.bool false, str n]) (by simp [results, Try.results121, go_sem, r0, r1]) rfl ?_
    obtain ⟨bb, b1, b2, bP, bR⟩ := HH.out
    exact ⟨rfl, one_left bb b1 b2 n1 (by omega) (by omega) (by omega) (by omega) _ _ _ _ _⟩
end Go.Proofs.Ytljfkjbagebncaa

/- ReadParts -/
namespace Go.Proofs.Ytljfkjbagebncaa
open Go.RowKit
theorem info64 : (Try.prog.info? 138).map (fun i => (i.zero, i.size, i.bytes)) = some (some (.agg #[.bool false, .string ⟨#[]⟩]), 2, 24) := by kernel_rfl
/-- Parts as cells. -/
abbrev pc (ps : List Part) : List Value := ps.flatMap fun p => [.bool p.1, str p.2]
theorem pc_length (ps : List Part) : (pc ps).length = ps.length * 2 := by
  induction ps with
  | nil => rfl
  | cons p L ih => simp only [pc, List.flatMap_cons, List.length_append] at ih ⊢; rw [ih]; simp; omega
theorem pc_get (ps : List Part) (j : Nat) (p : Part) (h : ps[j]? = some p) : (pc ps)[j * 2]? = some (.bool p.1) ∧ (pc ps)[j * 2 + 1]? = some (str p.2) := by
  induction ps generalizing j with
  | nil => simp at h
  | cons q L ih =>
    have e : pc (q :: L) = .bool q.1 :: str q.2 :: pc L := rfl
    rw [e]
    cases j with
    | zero =>
      simp at h
      subst h
      exact ⟨rfl, rfl⟩
    | succ j =>
      have := ih j (by simpa using h)
      rw [show (j + 1) * 2 = j * 2 + 1 + 1 by omega, show j * 2 + 1 + 1 + 1 = (j * 2 + 1) + 1 + 1 by omega]
      simpa using this
theorem pc_snoc (ps : List Part) (p : Part) : pc (ps ++ [p]) = pc ps ++ [.bool p.1, str p.2] := by simp [pc]
/-- A slice of parts that the call owns. -/
def Pts (w : World) (base : Nat) (v : Value) (ps : List Part) : Prop := w.ownsRow base 138 2 v ps.length (pc ps)
theorem pts_nil (w : World) (base : Nat) : Pts w base (.slice none 0 0) [] := World.ownsRow_nil _ _ _ _
theorem Pts.under {w w' : World} {base : Nat} {v : Value} {ps : List Part} (h : Pts w base v ps) (hb : Below w.heap.size w w') : Pts w' base v ps := row_tr h (Tr.of_below (S := fun _ => False) hb) (fun _ _ h => h)
/-- What the loop knows: three variables, the parts, the place. -/
structure RdI (s : ByteArray) (x y : Value) (w : World) (v : Value) (ps : List Part) (a : Int) (wr : World) : Prop where
  d : Ce wr w.heap.size 105 #[.string s, x, y]
  a : Boxed wr (w.heap.size + 1) 3 (.int .i64 a)
  e : Boxed wr (w.heap.size + 2) 29 (.int .i64 0)
  p : Pts wr w.heap.size v ps
  b : Below w.heap.size w wr
theorem three_new (w : World) (s : ByteArray) (x y a : Value) :
    let w' := (((w.alloc (.cells #[.string s, x, y] 105)).alloc (.cells #[a] 3)).alloc (.cells #[.int .i64 0] 29))
    Ce w' w.heap.size 105 #[.string s, x, y] ∧ Boxed w' (w.heap.size + 1) 3 a ∧ Boxed w' (w.heap.size + 2) 29 (.int .i64 0) ∧ Below w.heap.size w w' := by
  intro w'
  have h0 := Ce.new w 105 #[.string s, x, y]
  have h1 := Ce.new (w.alloc (.cells #[.string s, x, y] 105)) 3 #[a]
  have h2 := Ce.new ((w.alloc (.cells #[.string s, x, y] 105)).alloc (.cells #[a] 3)) 29 #[.int .i64 0]
  simp only [World.size_alloc] at h1 h2
  have g0 := (h0.below ((Below.refl _ _).alloc (Nat.le_refl _) (.cells #[a] 3))).below ((Below.refl _ _).alloc (Nat.le_refl _) (.cells #[.int .i64 0] 29))
  have g1 := h1.below ((Below.refl _ _).alloc (Nat.le_refl _) (.cells #[.int .i64 0] 29))
  refine ⟨g0, g1, h2, ?_⟩
  exact ((((Below.refl _ w).alloc (Nat.le_refl _) _).alloc (by simp) _).alloc (by simp; omega) _)
theorem Ce.kept {T : TypeId} {w w' : World} {B : Nat} {cs : Array Value} {row : Option Nat} (h : Ce w B T cs) (hg : w.grownBy w' row) (hne : some B ≠ row) : Ce w' B T cs := (hg.block B h.lt hne).trans h
theorem Ce.not_row {T : TypeId} {w : World} {B : Nat} {cs : Array Value} (h : Ce w B T cs) {base k e size : Nat} {v : Value} {xs : List Value} (hr : w.ownsRow base e size v k xs) (he : T ≠ e) : some B ≠ v.ownBlock := by
  rcases hr.2 with ⟨rfl, _⟩ | ⟨g, cap, cur, rfl, _, hgb, _⟩
  · simp [Value.ownBlock]
  · intro e'
    obtain rfl : B = g := by simpa [Value.ownBlock] using e'
    rw [show w.heap[B]? = _ from h] at hgb
    simp at hgb
    exact he hgb.2
/-- Behind the reader of one part, and behind the append. -/
theorem RdI.next {s : ByteArray} {x y : Value} {w : World} {v : Value} {ps : List Part} {a : Int} {wr w1 : World} (h : RdI s x y w v ps a wr)
    (ht : Tr (OneB (w.heap.size + 1) (w.heap.size + 2)) wr w1) :
    Ce w1 w.heap.size 105 #[.string s, x, y] ∧ Pts w1 w.heap.size v ps ∧ Below w.heap.size w w1 := by
  have g1 : Ce wr (w.heap.size + 1) 3 #[.int .i64 a] := h.a
  have g2 : Ce wr (w.heap.size + 2) 29 #[.int .i64 0] := h.e
  refine ⟨h.d.tr ht (by unfold OneB; omega), row_tr h.p ht ?_, h.b.trans (ht.below h.b.size (by unfold OneB; omega))⟩
  intro k hk hS
  rcases hS with rfl | rfl
  · exact g1.not_row h.p (by decide) hk.symm
  · exact g2.not_row h.p (by decide) hk.symm
theorem RdI.more {s : ByteArray} {x y : Value} {w : World} {v v' : Value} {ps : List Part} {q : Part} {p e : Int} {o : Obj} {w1 w2 : World}
    (h : Ce w1 w.heap.size 105 #[.string s, x, y] ∧ Pts w1 w.heap.size v ps ∧ Below w.heap.size w w1)
    (k1 : Boxed w1 (w.heap.size + 1) 3 (.int .i64 p)) (k2 : Boxed w1 (w.heap.size + 2) 29 (.int .i64 e))
    (hown : w2.ownsRow w.heap.size 138 2 v' (ps.length + 1) (pc ps ++ [.bool q.1, str q.2])) (hg : (w1.alloc o).grownBy w2 v.ownBlock) :
    (Ce w2 w.heap.size 105 #[.string s, x, y] ∧ Pts w2 w.heap.size v' (ps ++ [q]) ∧ Below w.heap.size w w2) ∧ Boxed w2 (w.heap.size + 1) 3 (.int .i64 p) ∧ Boxed w2 (w.heap.size + 2) 29 (.int .i64 e) := by
  obtain ⟨h1, h2, h3⟩ := h
  have g1 : Ce w1 (w.heap.size + 1) 3 #[.int .i64 p] := k1
  have g2 : Ce w1 (w.heap.size + 2) 29 #[.int .i64 e] := k2
  have hal : Below w1.heap.size w1 (w1.alloc o) := (Below.refl _ _).alloc (Nat.le_refl _) o
  have f0 := (h1.below hal).kept hg (h1.not_row h2 (by decide))
  have f1 := (g1.below hal).kept hg (g1.not_row h2 (by decide))
  have f2 := (g2.below hal).kept hg (g2.not_row h2 (by decide))
  refine ⟨⟨f0, ?_, (h3.alloc h3.size o).grown hg (by simp; have := h3.size; omega) (fun k hk => (World.ownsRow.lt h2 k hk).1)⟩, f1, f2⟩
  unfold Pts
  rw [pc_snoc, List.length_append]
  exact hown
set_option maxRecDepth 100000 in
set_option maxHeartbeats 6400000 in
theorem read_any (s : ByteArray) (hs : s.size ≤ 140737488351232) (a : Int) (ha : -9223372036854775808 ≤ a ∧ a ≤ 9223372036854775807) (y : Value) (zs : List Int) (hz : ∀ z ∈ zs, -9223372036854775808 ≤ z ∧ z ≤ 9223372036854775807) (hzl : zs.length ≤ 1000)
    (g c : Nat) (w : World) (hg : g < w.heap.size) (hc : ∀ k z, zs[k]? = some z → w.cell? ⟨g, k, none⟩ = some (.int .i64 z)) :
    Calls Try.prog 120 #[.agg #[.string s, .int .i64 a, y], .slice (some ⟨g, 0, none⟩) zs.length c] w fun e w' => ∃ v, e = .returned (.tuple #[v, .int .i64 (rdP s.data.toList zs a).2.1, .int .i64 (rdP s.data.toList zs a).2.2]) ∧
      Pts w' w.heap.size v (rdP s.data.toList zs a).1 ∧ Below w.heap.size w w' := by
  obtain ⟨i0, hi, hz0, hz1, hz2⟩ := info_parts info64
  have HZ := Lib.hid hz
  have HC := Lib.hid hc
  obtain ⟨m, hm⟩ : ∃ m, m = zs.length := ⟨_, rfl⟩
  rw [← hm] at hzl ⊢
  have HM := Lib.hid hm
  have hmi : (m : Int) ≤ 1000 := by omega
  have HN := Lib.hid (three_new w s (.int .i64 a) y (.int .i64 a))
  have HE := Lib.hid (show cmb [] (rdP s.data.toList zs a) = rdP s.data.toList zs a from cmb_nil _ (rdP_err _ _ _))
  have HG := Lib.hid hg
  clear hz hc hm hg
  generalize hR : rdP s.data.toList zs a = R at HE ⊢
  have HR := Lib.hid hR
  clear hR
  go_enter Try.func120, Try.ntmps120
  go_wp2
  go_loopw [10, 18] (fun v i wr => ∃ (k : Nat) (ps : List Part) (a' : Int), k ≤ m ∧ i = .int .i64 k ∧ ps.length = k ∧ (-9223372036854775808 ≤ a' ∧ a' ≤ 9223372036854775807) ∧ cmb ps (rdP s.data.toList (zs.drop k) a') = R ∧ RdI s (.int .i64 a) y w v ps a' wr) (fun _ i _ => m - (intOf i).toNat)
  case atStart => 
    obtain ⟨n1, n2, n3, n4⟩ := HN.out
    exact ⟨0, [], a, by omega, rfl, rfl, ha, by rw [List.drop_zero, HR.out, HE.out], n1, n2, n3, pts_nil _ _, n4⟩
  case round =>
    obtain ⟨k, ps, a', hk, rfl, hpl, ha', hE, hI⟩ := hrel
    clear HN
    by_cases hlt : k < m
    · have q1 : (k : Int) < (m : Int) := by omega
      obtain ⟨z, hzk⟩ : ∃ z, zs[k]? = some z := ⟨_, List.getElem?_eq_getElem (by rw [← HM.out]; exact hlt)⟩
      have hzb := HZ.out z (List.mem_of_getElem? hzk)
      have cz : wr.cell? ⟨g, k, none⟩ = some (.int .i64 z) := (hI.b.cell (p := ⟨g, k, none⟩) HG.out).trans (HC.out k z hzk)
      have hdrop : zs.drop k = z :: zs.drop (k + 1) := by
        obtain ⟨hlk, e⟩ := List.getElem?_eq_some_iff.1 hzk
        rw [List.drop_eq_getElem_cons hlk, e]
      rw [hdrop] at hE
      have C := one_any s hs a' z ha' hzb w.heap.size (w.heap.size + 1) (w.heap.size + 2) (.int .i64 a) y 0 wr hI.d hI.a hI.e (by omega)
      have hbd := rd1_bd s.data.toList a' z
      have HBAD := Lib.hid (fun (h : (rd1 s.data.toList a' z).2.2 ≠ 0) => (rdP_bad (zs := zs.drop (k + 1)) (ps := ps) h).symm.trans hE)
      have HGO := Lib.hid (fun (h : (rd1 s.data.toList a' z).2.2 = 0) => (rdP_go (zs := zs.drop (k + 1)) (ps := ps) h).symm.trans hE)
      generalize rd1 s.data.toList a' z = q at C hbd HBAD HGO
      obtain ⟨t, p, e⟩ := q
      have hsl := size_list s
      have hpb : -9223372036854775808 ≤ p ∧ p ≤ 9223372036854775807 := by simp only at hbd; omega
      have HC1 := Lib.hid C
      have HI := Lib.hid hI
      have HPL := Lib.hid hpl
      clear C hI hE hdrop hzk hbd hsl hpl
      go_wp2_with fail
      refine HC1.out.mono ?_
      rintro e1 w1 ⟨rfl, k1, k2, ht⟩
      have hN := HI.out.next ht
      have HK1 := Lib.hid k1
      have HK2 := Lib.hid k2
      have HN := Lib.hid hN
      have HO : Hid (Pts w1 w.heap.size u10 ps) := Lib.hid hN.2.1
      unfold Pts at HO
      rw [HPL.out] at HO
      have hsz := hN.2.2.size
      clear k1 k2 ht hN
      go_wp2_with (at_builtin; refine wpList_append_own _ rfl (.tmp 22) (.tmp 26) 109 rfl w.heap.size 138 i0 (.agg #[.bool false, .string ⟨#[]⟩]) 2 24 Try.underlying109 hi hz0 hz1 hz2 rfl (by decide) _ _ _ rfl (World.ownsRow.alloc HO.out _) ⟨w1.heap.size, 0, none⟩ 1 1 [.bool (decide (z = -1)), str t] rfl rfl (fun j u hj => World.news_of_block (cs := #[.bool (decide (z = -1)), str t]) (t := 138) (fr := (0, 0)) (heap_alloc_new w1 _) j u hj) (by simp [Value.oneCell']) (by unfold maxLen; omega) (by omega) (by simp; omega) ?_)
      intro v' w2 hown' hgrow _
      have hM := RdI.more (q := (decide (z = -1), t)) HN.out HK1.out HK2.out (by rw [HPL.out]; exact hown') hgrow
      have c2 : w2.cell? ⟨w.heap.size + 1 + 1, 0, none⟩ = some (.int .i64 e) := hM.2.2.cell
      have HMM := Lib.hid hM
      clear hown' hgrow hM hsz
      by_cases he : e = 0
      · subst he
        go_wp2
        go_roundw
        case rel => exact ⟨k + 1, ps ++ [(decide (z = -1), t)], p, by omega, by go_num, by rw [List.length_append, HPL.out]; rfl, hpb, HGO.out rfl, HMM.out.1.1, HMM.out.2.1, HMM.out.2.2, HMM.out.1.2.1, HMM.out.1.2.2⟩
        case measure => simp [intOf]; omega
      · have q2 : (e == 0) = false := by simpa using he
        have q2' : (e != 0) = true := by simpa using he
        have HEE := Lib.hid (HBAD.out he)
        clear he
        go_wp2
        go_quiet (fail)
        go_wp2
        go_ret3
        rw [← HEE.out]
        exact ⟨_, rfl, pts_nil _ _, HMM.out.1.2.2.trans ((drewN_below w2 _).mono HMM.out.1.2.2.size)⟩
    · have q1 : decide ((k : Int) < (m : Int)) = false := by simp; omega
      have e : zs.drop k = [] := List.drop_eq_nil_of_le (by rw [← HM.out]; omega)
      rw [e, rdP_end] at hE
      have c1 := hI.a.cell
      have HI := Lib.hid hI
      have HEE := Lib.hid hE
      clear hI hE e
      go_wp2
      go_quiet (fail)
      go_wp2
      go_ret3
      rw [← HEE.out]
      exact ⟨_, rfl, HI.out.p.under (drewN_below wr _), HI.out.b.trans ((drewN_below wr _).mono HI.out.b.size)⟩
end Go.Proofs.Ytljfkjbagebncaa
