/-
  RdQ: How a question is read, and how many elements a header says that there are. No older memory is changed.
  Gather: How questions and records are read one behind the other. No older memory is changed.
  GatherR: How records are read one behind the other. No older memory is changed.
-/
import Derived.Test.YtljfkjbagebncaaG22
import Derived.Test.YtljfkjbagebncaaG21

/- RdQ -/
namespace Go.Proofs.Ytljfkjbagebncaa
open Go.RowKit
def zeroQ : Qn := ⟨⟨#[]⟩, 0, 0⟩
/-- What the ways out of reading a question are. -/
def qgW (er r2 r3 p3 : Int) (q : Qn) : Qn × Int × Int := if er = 0 then (if r2 = 0 then (if r3 = 0 then (q, p3, 0) else (zeroQ, 0, r3)) else (zeroQ, 0, r2)) else (zeroQ, 0, er)
/-- The question at a place, the place behind it, the error. -/
def qg (s : Bs) (a : Int) : Qn × Int × Int :=
  let p := ((nmI s a).2.1 : Int)
  let p2 := piP s p 2
  qgW ((nmI s a).2.2 : Int) (piR s p 2) (piR s p2 2) (piP s p2 2) ⟨⟨(nmI s a).1.toArray⟩, numB (piS s p 2), numB (piS s p2 2)⟩
def QPost (w : World) (x : Qn × Int × Int) (e : Ending) (w' : World) : Prop := e = .returned (.tuple #[x.1.v, .int .i64 x.2.1, .int .i64 x.2.2]) ∧ Below w.heap.size w w'
theorem info44 : (Try.prog.info? 44).map (·.size) = some 3 := by kernel_rfl
theorem ld44 {ops : Array Oper} {rest : List Oper} {o : Oper} {a : Act} {w : World} {Q : Exit → Act → World → Prop} (x : Operand) {g : Nat} {cs : Array Value} (hg : Ce w g 44 cs) (hs : cs.size = 3) (hgd : o.guard = none) (ho : o.op = .load 44 x)
    (hx : a.eval x = ptr g) (h : wpList Try.prog ops Q rest (a.put o.dst (.agg cs)) w) : wpList Try.prog ops Q (o :: rest) a w :=
  wpList_load_row hgd 44 x ho g hx 44 cs (0, 0) _ hg Try.underlying44 rfl (by rw [hs]; exact info44) h
theorem st44 {ops : Array Oper} {rest : List Oper} {o : Oper} {a : Act} {w : World} {Q : Exit → Act → World → Prop} (x y : Operand) {g : Nat} {old : Array Value} (hg : Ce w g 44 old) (hs : old.size = 3)
    {n : ByteArray} {t c : Int} (hgd : o.guard = none) (ho : o.op = .store 44 x y) (hx : a.eval x = ptr g) (hy : a.eval y = .agg #[.string n, .int .u16 t, .int .u16 c])
    (h : wpList Try.prog ops Q rest (a.put o.dst undef) (w.setRow g #[.string n, .int .u16 t, .int .u16 c])) : wpList Try.prog ops Q (o :: rest) a w :=
  wpList_store_row hgd 44 x y ho g _ hx hy 44 old hg info44 hs (by simp [Value.oneCell']) h
theorem qret {w : World} {R : Qn × Int × Int} {n : ByteArray} {t c : Nat} {p r : Int} {w' : World} (h : R = (⟨n, t, c⟩, p, r)) (hb : Below w.heap.size w w') : QPost w R (.returned (.tuple #[.agg #[.string n, .int .u16 (t : Int), .int .u16 (c : Int)], .int .i64 p, .int .i64 r])) w' := by
  rw [h]; exact ⟨rfl, hb⟩
set_option maxRecDepth 100000 in
set_option maxHeartbeats 12800000 in
theorem question_gen (s : ByteArray) (a : Int) (n : ByteArray) (t c : Nat) (p er p2 r2 p3 r3 : Int) (w : World)
    (CN : ∀ w, Calls Try.prog 70 #[.string s, .int .i64 a] w fun e w' => e = .returned (.tuple #[.string n, .int .i64 p, .int .i64 er]) ∧ Below w.heap.size w w')
    (CT : ∀ w, Calls Try.prog 40 #[.string s, .int .i64 p] w fun e w' => e = .returned (.tuple #[.int .u16 (t : Int), .int .i64 p2, .int .i64 r2]) ∧ w = w')
    (CC : ∀ w, Calls Try.prog 40 #[.string s, .int .i64 p2] w fun e w' => e = .returned (.tuple #[.int .u16 (c : Int), .int .i64 p3, .int .i64 r3]) ∧ w = w') :
    Calls Try.prog 33 #[.string s, .int .i64 a] w (QPost w (qgW er r2 r3 p3 ⟨n, t, c⟩)) := by
  obtain ⟨R, hR⟩ : ∃ R, R = qgW er r2 r3 p3 ⟨n, t, c⟩ := ⟨_, rfl⟩
  rw [← hR]
  have HR := Lib.hid hR
  have HCN := Lib.hid CN
  have HCT := Lib.hid CT
  have HCC := Lib.hid CC
  have ht := two_boxes w 44 44 #[.string ⟨#[]⟩, .int .u16 0, .int .u16 0] #[.string ⟨#[]⟩, .int .u16 0, .int .u16 0]
  simp only at ht
  have HT := Lib.hid ht
  clear CN CT CC hR ht
  go_enter Try.func33, Try.ntmps33
  go_wp2_with fail
  refine (HCN.out _).mono ?_
  rintro e w2 ⟨rfl, hb2⟩
  have A2 := HT.out.1.below hb2
  have B2 := HT.out.2.1.below hb2
  have hB2 := HT.out.2.2.trans (hb2.mono HT.out.2.2.size)
  have x0 := B2.cell 0
  have f0 := B2.frozen 0
  simp at x0
  have HA3 := Lib.hid (A2.other (i := 0) (by omega : w.heap.size ≠ w.heap.size + 1) (.string n))
  have hB3 : Ce (w2.setCell ⟨w.heap.size + 1, 0, none⟩ (.string n)) (w.heap.size + 1) 44 #[.string n, .int .u16 0, .int .u16 0] := B2.set (i := 0) (.string n)
  have HB3 := Lib.hid hB3
  have HW3 := Lib.hid (hB2.setCell (p := ⟨w.heap.size + 1, 0, none⟩) (Nat.le_succ _) (.string n))
  clear A2 B2 hB2 hb2 hB3
  by_cases g : er = 0
  · subst g
    have x1 := HB3.out.cell 1
    have f1 := HB3.out.frozen 1
    simp at x1
    go_wp2_with fail
    refine (HCT.out _).mono ?_
    rintro e w' ⟨rfl, rfl⟩
    have HA4 := Lib.hid (HA3.out.other (i := 1) (by omega : w.heap.size ≠ w.heap.size + 1) (.int .u16 (t : Int)))
    have hB4 : Ce ((w2.setCell ⟨w.heap.size + 1, 0, none⟩ (.string n)).setCell ⟨w.heap.size + 1, 1, none⟩ (.int .u16 (t : Int))) (w.heap.size + 1) 44 #[.string n, .int .u16 (t : Int), .int .u16 0] := HB3.out.set (i := 1) (.int .u16 (t : Int))
    have HB4 := Lib.hid hB4
    have HW4 := Lib.hid (HW3.out.setCell (p := ⟨w.heap.size + 1, 1, none⟩) (Nat.le_succ _) (.int .u16 (t : Int)))
    clear hB4
    by_cases g : r2 = 0
    · subst g
      have x2 := HB4.out.cell 2
      have f2 := HB4.out.frozen 2
      simp at x2
      go_wp2_with fail
      refine (HCC.out _).mono ?_
      rintro e w' ⟨rfl, rfl⟩
      have HA5 := Lib.hid (HA4.out.other (i := 2) (by omega : w.heap.size ≠ w.heap.size + 1) (.int .u16 (c : Int)))
      have hB5 : Ce (((w2.setCell ⟨w.heap.size + 1, 0, none⟩ (.string n)).setCell ⟨w.heap.size + 1, 1, none⟩ (.int .u16 (t : Int))).setCell ⟨w.heap.size + 1, 2, none⟩ (.int .u16 (c : Int))) (w.heap.size + 1) 44 #[.string n, .int .u16 (t : Int), .int .u16 (c : Int)] := HB4.out.set (i := 2) (.int .u16 (c : Int))
      have HB5 := Lib.hid hB5
      have HW5 := Lib.hid (HW4.out.setCell (p := ⟨w.heap.size + 1, 2, none⟩) (Nat.le_succ _) (.int .u16 (c : Int)))
      clear hB5
      by_cases g : r3 = 0
      · subst g
        have HRE : Hid (R = (⟨n, t, c⟩, p3, 0)) := Lib.hid (by rw [HR.out]; simp [qgW])
        go_wp2_with (first | (refine ld44 (.tmp 7) HB5.out rfl rfl rfl rfl ?_) | (refine st44 (.tmp 4) _ HA5.out rfl rfl rfl rfl rfl ?_))
        refine bodyPost_ret (res3q rfl rfl (HA5.out.row #[.string n, .int .u16 (t : Int), .int .u16 (c : Int)])) rfl ?_
        exact qret HRE.out (below_row HW5.out (Nat.le_refl _) _)
      · have g' : (r3 == 0) = false := by simpa using g
        have HRE : Hid (R = (⟨⟨#[]⟩, 0, 0⟩, 0, r3)) := Lib.hid (by rw [HR.out]; simp [qgW, zeroQ, g])
        clear g
        go_wp2_with (first | (refine st44 (.tmp 4) _ HA5.out rfl rfl rfl rfl rfl ?_))
        refine bodyPost_ret (res3q rfl rfl (HA5.out.row #[.string ⟨#[]⟩, .int .u16 0, .int .u16 0])) rfl ?_
        exact qret HRE.out (below_row HW5.out (Nat.le_refl _) _)
    · have g' : (r2 == 0) = false := by simpa using g
      have HRE : Hid (R = (⟨⟨#[]⟩, 0, 0⟩, 0, r2)) := Lib.hid (by rw [HR.out]; simp [qgW, zeroQ, g])
      clear g
      go_wp2_with (first | (refine st44 (.tmp 4) _ HA4.out rfl rfl rfl rfl rfl ?_))
      refine bodyPost_ret (res3q rfl rfl (HA4.out.row #[.string ⟨#[]⟩, .int .u16 0, .int .u16 0])) rfl ?_
      exact qret HRE.out (below_row HW4.out (Nat.le_refl _) _)
  · have g' : (er == 0) = false := by simpa using g
    have HRE : Hid (R = (⟨⟨#[]⟩, 0, 0⟩, 0, er)) := Lib.hid (by rw [HR.out]; simp [qgW, zeroQ, g])
    clear g
    go_wp2_with (first | (refine st44 (.tmp 4) _ HA3.out rfl rfl rfl rfl rfl ?_))
    refine bodyPost_ret (res3q rfl rfl (HA3.out.row #[.string ⟨#[]⟩, .int .u16 0, .int .u16 0])) rfl ?_
    exact qret HRE.out (below_row HW3.out (Nat.le_refl _) _)
end Go.Proofs.Ytljfkjbagebncaa

/- Gather -/
namespace Go.Proofs.Ytljfkjbagebncaa
open Go.RowKit
theorem question_any (s : ByteArray) (hs : s.size ≤ 1000000) (a : Int) (ha : -9223372036854775808 ≤ a ∧ a ≤ 9223372036854775807) (w : World) :
    Calls Try.prog 33 #[.string s, .int .i64 a] w (QPost w (qg s.data.toList a)) := by
  have hl := size_list s
  have hp := nmI_place_any s.data.toList a
  have hp2 := piP_bd s.data.toList ((nmI s.data.toList a).2.1 : Int) 2
  exact question_gen s a _ _ _ _ _ _ _ _ _ w (fun w => name_any s (by omega) a ha w) (fun w => word_any s (by omega) _ (by omega) w) (fun w => word_any s (by omega) _ (by omega) w)
theorem qg_bd (s : Bs) (a : Int) : 0 ≤ (qg s a).2.1 ∧ (qg s a).2.1 ≤ (s.length : Int) := by
  have := piP_bd s (piP s ((nmI s a).2.1 : Int) 2) 2
  unfold qg qgW
  simp only
  split
  · split
    · split
      · exact this
      · simp
    · simp
  · simp
theorem qg_num (s : Bs) (a : Int) : (qg s a).1.Num := by
  have h2 := numB_pi s ((nmI s a).2.1 : Int) 2
  have h3 := numB_pi s (piP s ((nmI s a).2.1 : Int) 2) 2
  unfold qg qgW
  simp only
  split
  · split
    · split
      · exact ⟨h2, h3⟩
      · exact ⟨by show 0 < 65536; omega, by show 0 < 65536; omega⟩
    · exact ⟨by show 0 < 65536; omega, by show 0 < 65536; omega⟩
  · exact ⟨by show 0 < 65536; omega, by show 0 < 65536; omega⟩
/-- So many elements that are read one behind the other. -/
def gl {T : Type} (get : Int → T × Int × Int) : Nat → Int → List T × Int × Int
  | 0, a => ([], a, 0)
  | k + 1, a => if (get a).2.2 = 0 then (if (gl get k (get a).2.1).2.2 = 0 then ((get a).1 :: (gl get k (get a).2.1).1, (gl get k (get a).2.1).2.1, 0) else ([], 0, (gl get k (get a).2.1).2.2)) else ([], 0, (get a).2.2)
/-- Elements that came first, and the others. -/
def cat3 {T : Type} (xs : List T) (q : List T × Int × Int) : List T × Int × Int := if q.2.2 = 0 then (xs ++ q.1, q.2.1, 0) else ([], 0, q.2.2)
theorem gl_err {T : Type} (get : Int → T × Int × Int) (k : Nat) (a : Int) (h : (gl get k a).2.2 ≠ 0) : gl get k a = ([], 0, (gl get k a).2.2) := by
  cases k with
  | zero => simp [gl] at h
  | succ k =>
    simp only [gl] at h ⊢
    split
    · rename_i h1
      rw [if_pos h1] at h
      split
      · rename_i h2; rw [if_pos h2] at h; simp at h
      · rfl
    · rfl
theorem cat3_nil {T : Type} (get : Int → T × Int × Int) (k : Nat) (a : Int) : cat3 [] (gl get k a) = gl get k a := by
  unfold cat3
  split
  · rename_i h
    have : gl get k a = ((gl get k a).1, (gl get k a).2.1, (gl get k a).2.2) := rfl
    rw [this, h]; rfl
  · rename_i h; exact (gl_err get k a h).symm
theorem cat3_bad {T : Type} {get : Int → T × Int × Int} {k : Nat} {a : Int} {xs : List T} (h : (get a).2.2 ≠ 0) : cat3 xs (gl get (k + 1) a) = ([], 0, (get a).2.2) := by
  have e : gl get (k + 1) a = ([], 0, (get a).2.2) := by simp only [gl]; rw [if_neg h]
  rw [e]; unfold cat3; rw [if_neg h]
theorem cat3_go {T : Type} {get : Int → T × Int × Int} {k : Nat} {a : Int} {xs : List T} (h : (get a).2.2 = 0) : cat3 xs (gl get (k + 1) a) = cat3 (xs ++ [(get a).1]) (gl get k (get a).2.1) := by
  have e : gl get (k + 1) a = if (gl get k (get a).2.1).2.2 = 0 then ((get a).1 :: (gl get k (get a).2.1).1, (gl get k (get a).2.1).2.1, 0) else ([], 0, (gl get k (get a).2.1).2.2) := by simp only [gl]; rw [if_pos h]
  rw [e]
  unfold cat3
  by_cases g : (gl get k (get a).2.1).2.2 = 0
  · rw [if_pos g, if_pos g]; simp
  · rw [if_neg g, if_neg g, if_neg g]
theorem cat3_end {T : Type} {get : Int → T × Int × Int} {a : Int} {xs : List T} : cat3 xs (gl get 0 a) = (xs, a, 0) := by simp [cat3, gl]
/-- Questions as cells. -/
abbrev qcc (qs : List Qn) : List Value := qs.flatMap fun q => q.cells.toList
theorem qcc_get (qs : List Qn) (j : Nat) (q : Qn) (h : qs[j]? = some q) : (qcc qs)[j * 3]? = some (.string q.n) ∧ (qcc qs)[j * 3 + 1]? = some (.int .u16 (q.t : Int)) ∧ (qcc qs)[j * 3 + 2]? = some (.int .u16 (q.c : Int)) := by
  induction qs generalizing j with
  | nil => simp at h
  | cons p L ih =>
    have e : qcc (p :: L) = .string p.n :: .int .u16 (p.t : Int) :: .int .u16 (p.c : Int) :: qcc L := rfl
    rw [e]
    cases j with
    | zero => simp at h; subst h; exact ⟨rfl, rfl, rfl⟩
    | succ j =>
      have := ih j (by simpa using h)
      rw [show (j + 1) * 3 = j * 3 + 1 + 1 + 1 by omega]
      simpa [Nat.add_assoc] using this
theorem qcc_snoc (qs : List Qn) (q : Qn) : qcc (qs ++ [q]) = qcc qs ++ q.cells.toList := by simp [qcc]
theorem infoQ : (Try.prog.info? 44).map (fun i => (i.zero, i.size, i.bytes)) = some (some (.agg #[.string ⟨#[]⟩, .int .u16 0, .int .u16 0]), 3, 24) := by kernel_rfl
/-- A row of one's own reads as what it holds. -/
theorem row_rdq {w : World} {base : Nat} {v : Value} {qs : List Qn} (h : w.ownsRow base 44 3 v qs.length (qcc qs)) : ∃ s : Sl, v = s.v ∧ RdQ w s qs := by
  have hc := @World.ownsRow.cells w base 44 3 v qs.length _ h
  rcases h.2 with ⟨rfl, h0⟩ | ⟨g, cap, cur, rfl, hb, hg, _⟩
  · exact ⟨⟨none, 0, 0⟩, rfl, h0.symm, .inl (List.length_eq_zero_iff.1 h0)⟩
  · refine ⟨⟨some ⟨g, 0, none⟩, qs.length, cap⟩, rfl, rfl, .inr ⟨g, 0, rfl, (Array.getElem?_eq_some_iff.1 hg).1, fun j q hj => ?_⟩⟩
    obtain ⟨c0, c1, c2⟩ := qcc_get qs j q hj
    have d0 := hc (g := g) rfl _ _ c0
    have d1 := hc (g := g) rfl _ _ c1
    have d2 := hc (g := g) rfl _ _ c2
    rw [add_lit] at d0 d1 d2
    exact ⟨d0, by simpa [Nat.add_assoc] using d1, by simpa [Nat.add_assoc] using d2⟩
theorem row_rdr {w : World} {base : Nat} {v : Value} {rs : List Rc} (h : w.ownsRow base 61 5 v rs.length (rcc rs)) : ∃ s : Sl, v = s.v ∧ RdR w s rs := by
  have hc := @World.ownsRow.cells w base 61 5 v rs.length _ h
  rcases h.2 with ⟨rfl, h0⟩ | ⟨g, cap, cur, rfl, hb, hg, _⟩
  · exact ⟨⟨none, 0, 0⟩, rfl, h0.symm, .inl (List.length_eq_zero_iff.1 h0)⟩
  · refine ⟨⟨some ⟨g, 0, none⟩, rs.length, cap⟩, rfl, rfl, .inr ⟨g, 0, rfl, (Array.getElem?_eq_some_iff.1 hg).1, fun j r hj => ?_⟩⟩
    obtain ⟨c0, c1, c2, c3, c4⟩ := rcc_get rs j r hj
    have d0 := hc (g := g) rfl _ _ c0
    have d1 := hc (g := g) rfl _ _ c1
    have d2 := hc (g := g) rfl _ _ c2
    have d3 := hc (g := g) rfl _ _ c3
    have d4 := hc (g := g) rfl _ _ c4
    rw [add_lit] at d0 d1 d2 d3 d4
    exact ⟨d0, by simpa [Nat.add_assoc] using d1, by simpa [Nat.add_assoc] using d2, by simpa [Nat.add_assoc] using d3, by simpa [Nat.add_assoc] using d4⟩
theorem row_under {w w' : World} {base e size n : Nat} {v : Value} {xs : List Value} (h : w.ownsRow base e size v n xs) (hb : Below w.heap.size w w') : w'.ownsRow base e size v n xs :=
  row_tr h (Tr.of_below (S := fun _ => False) hb) (fun _ _ h => h)
theorem row_grown {w wr w1 : World} {B e size n : Nat} {v : Value} {xs : List Value} (hown : wr.ownsRow B e size v n xs) (hBw : w.heap.size ≤ B) (hb : Below w.heap.size w wr) {o : Obj} (hg : (wr.alloc o).grownBy w1 v.ownBlock) : Below w.heap.size w w1 := by
  have ha : Below w.heap.size w (wr.alloc o) := hb.alloc hb.size _
  refine ha.trans ⟨hg.os, hg.tape, hg.output, hg.size, fun i hi => hg.block i (Nat.lt_of_lt_of_le hi ha.size) ?_⟩
  intro e
  have := (World.ownsRow.lt hown i e.symm).1
  omega
/-- What reading so many questions hands back. -/
def GlQ (w : World) (R : List Qn × Int × Int) (e : Ending) (w' : World) : Prop := ∃ s : Sl, e = .returned (.tuple #[s.v, .int .i64 R.2.1, .int .i64 R.2.2]) ∧ RdQ w' s R.1 ∧ Below w.heap.size w w'
def GlR (w : World) (R : List Rc × Int × Int) (e : Ending) (w' : World) : Prop := ∃ s : Sl, e = .returned (.tuple #[s.v, .int .i64 R.2.1, .int .i64 R.2.2]) ∧ RdR w' s R.1 ∧ Below w.heap.size w w'
set_option maxRecDepth 100000 in
set_option maxHeartbeats 12800000 in
theorem gatherQ_any (s : ByteArray) (hs : s.size ≤ 1000000) (a0 : Int) (ha : 0 ≤ a0 ∧ a0 ≤ 1000000) (n : Nat) (hn : n < 65536) (w : World) :
    Calls Try.prog 31 #[.string s, .int .i64 a0, .int .u16 (n : Int), .func (.func 33) #[] #[]] w (GlQ w (gl (qg s.data.toList) n a0)) := by
  obtain ⟨i0, hi, hz0, hz1, hz2⟩ := info_parts infoQ
  obtain ⟨G, hG⟩ : ∃ G : Int → Qn × Int × Int, G = qg s.data.toList := ⟨_, rfl⟩
  obtain ⟨R, hR⟩ : ∃ R, R = gl (qg s.data.toList) n a0 := ⟨_, rfl⟩
  rw [← hR]
  have HR : Hid (cat3 [] (gl G (n - 0) a0) = R) := Lib.hid (by rw [cat3_nil, hG, hR]; rfl)
  have HC : Hid (∀ a, 0 ≤ a → a ≤ 1000000 → ∀ w, Calls Try.prog 33 #[.string s, .int .i64 a] w (QPost w (G a))) := Lib.hid fun a h1 h2 w => by rw [hG]; exact question_any s hs a (by omega) w
  have HP : Hid (∀ a, 0 ≤ (G a).2.1 ∧ (G a).2.1 ≤ 1000000) := Lib.hid fun a => by
    have := qg_bd s.data.toList a
    have := size_list s
    rw [hG]; omega
  clear hG hR
  have hni : (n : Int) < 65536 := by omega
  have HA := Lib.hid ha
  clear hs ha hn
  go_enter Try.func31, Try.ntmps31
  go_wp2
  go_loopw [1, 11, 16] (fun a v i wr => ∃ (k : Nat) (p : Int) (qs : List Qn), k ≤ n ∧ i = .int .u16 (k : Int) ∧ a = .int .i64 p ∧ 0 ≤ p ∧ p ≤ 1000000 ∧ qs.length = k ∧ wr.ownsRow w.heap.size 44 3 v qs.length (qcc qs) ∧ Below w.heap.size w wr ∧ cat3 qs (gl G (n - k) p) = R) (fun _ _ i _ => n - (intOf i).toNat)
  case atStart => exact ⟨0, a0, [], by omega, rfl, rfl, HA.out.1, HA.out.2, rfl, World.ownsRow_nil _ _ _ _, Below.refl _ _, HR.out⟩
  case round =>
    clear HR HA
    obtain ⟨k, p, qs, hk, rfl, rfl, hp1, hp2, hql, hown, hb, hE⟩ := hrel
    by_cases hlt : k < n
    · have q1 : (k : Int) < (n : Int) := by omega
      have C := HC.out p hp1 hp2
      have hP := HP.out p
      rw [show n - k = (n - (k + 1)) + 1 by omega] at hE
      have HE := Lib.hid hE
      have HOWN := Lib.hid hown
      have HB := Lib.hid hb
      unfold QPost at C
      have hbad : Hid ((G p).2.2 ≠ 0 → R = ([], 0, (G p).2.2)) := Lib.hid fun h => by rw [← HE.out]; exact cat3_bad h
      have hgo : Hid ((G p).2.2 = 0 → cat3 (qs ++ [(G p).1]) (gl G (n - (k + 1)) (G p).2.1) = R) := Lib.hid fun h => by rw [← HE.out]; exact (cat3_go h).symm
      generalize G p = Y at C hP hbad hgo
      obtain ⟨⟨yn, yt, yc⟩, p2, er⟩ := Y
      simp only at C hP hbad hgo
      have HCC := Lib.hid C
      clear C hE hown hb HE
      go_wp2_with fail
      refine (HCC.out _).mono ?_
      rintro e w4 ⟨rfl, hb4⟩
      have HB4 := Lib.hid (HB.out.trans (hb4.mono HB.out.size))
      have HO4 := Lib.hid (row_under HOWN.out hb4)
      clear hb4
      by_cases g : er = 0
      · subst g
        have hbx := one_box w4 (.cells #[.string yn, .int .u16 (yt : Int), .int .u16 (yc : Int)] 44)
        have HB5 := Lib.hid (HB4.out.trans (hbx.mono HB4.out.size))
        have hown5 := row_under HO4.out hbx
        have C5 := Ce.new w4 44 #[.string yn, .int .u16 (yt : Int), .int .u16 (yc : Int)]
        have HC5 := Lib.hid C5
        obtain ⟨va, vc, rfl⟩ := row_slice hown5
        rw [hql] at hown5
        have HO5 := Lib.hid hown5
        clear C5 hown5 hbx
        have hsz := HB4.out.size
        go_wp2_with (first | (refine ld44 (.tmp 12) HC5.out rfl rfl rfl rfl ?_) | (at_builtin; go_loud (refine wpList_append_own_at _ rfl (.tmp 29) (.tmp 31) 23 rfl w.heap.size 44 i0 (.agg #[.string ⟨#[]⟩, .int .u16 0, .int .u16 0]) 3 24 Try.underlying23 hi hz0 hz1 hz2 rfl (by decide) _ k _ rfl (World.ownsRow.alloc HO5.out _) ⟨w4.heap.size + 1, 0, none⟩ 1 1 [.string yn, .int .u16 (yt : Int), .int .u16 (yc : Int)] rfl rfl (fun j u hj => World.news_of_block (cs := #[.string yn, .int .u16 (yt : Int), .int .u16 (yc : Int)]) (t := 44) (fr := (0, 0)) (by have := heap_alloc_new (w4.alloc (.cells #[.string yn, .int .u16 (yt : Int), .int .u16 (yc : Int)] 44)) (.cells #[.string yn, .int .u16 (yt : Int), .int .u16 (yc : Int)] 44); rwa [World.size_alloc] at this) j u hj) (by simp [Value.oneCell']) (by unfold maxLen; omega) (by omega) (by simp; omega) ?_)))
        intro v' w7 hown' hgrow _ hat
        have HB7 := Lib.hid (row_grown HO5.out (Nat.le_refl _) HB5.out hgrow)
        have HO7 : Hid (w7.ownsRow w.heap.size 44 3 v' (qs ++ [(⟨yn, yt, yc⟩ : Qn)]).length (qcc (qs ++ [(⟨yn, yt, yc⟩ : Qn)]))) := Lib.hid (by
          rw [qcc_snoc, List.length_append, hql]; exact hown')
        have HQL : Hid ((qs ++ [(⟨yn, yt, yc⟩ : Qn)]).length = k + 1) := Lib.hid (by rw [List.length_append, hql]; rfl)
        have HGO := Lib.hid (hgo.out (by first | trivial | rfl))
        clear hown' hgrow hat hql hgo hbad
        go_wp2
        go_roundw
        case rel => exact ⟨k + 1, p2, _, by omega, by go_num, rfl, hP.1, hP.2, HQL.out, HO7.out, HB7.out, HGO.out⟩
        case measure => simp [intOf]; omega
      · have g' : (er == 0) = false := by simpa using g
        have g'' : (er != 0) = true := by simpa using g
        have HRE := Lib.hid (hbad.out g)
        have HB5 := Lib.hid (HB4.out.trans ((one_box w4 (.cells #[.string yn, .int .u16 (yt : Int), .int .u16 (yc : Int)] 44)).mono HB4.out.size))
        clear g hbad hgo hql hi hz0 hz1 hz2
        go_wp2
        go_ret3
        refine ⟨⟨none, 0, 0⟩, ?_, ?_, HB5.out⟩
        · rw [HRE.out]; rfl
        · rw [HRE.out]; exact rdq_nil _
    · obtain rfl : k = n := by omega
      have q1 : decide ((k : Int) < (k : Int)) = false := by simp
      rw [Nat.sub_self, cat3_end] at hE
      obtain ⟨sl, rfl, hsl⟩ := row_rdq hown
      obtain ⟨sa, sn, sc⟩ := sl
      have HS := Lib.hid hsl
      have HE := Lib.hid hE
      have HB := Lib.hid hb
      clear hown hb hE hsl hql hi hz0 hz1 hz2
      go_wp2
      go_ret3
      refine ⟨⟨sa, sn, sc⟩, ?_, ?_, HB.out⟩
      · rw [← HE.out]; rfl
      · rw [← HE.out]; exact HS.out
end Go.Proofs.Ytljfkjbagebncaa

/- GatherR -/
namespace Go.Proofs.Ytljfkjbagebncaa
open Go.RowKit
theorem gt_place (s : Bs) (a : Int) : 0 ≤ (gt s a).2.1 ∧ (gt s a).2.1 ≤ (s.length : Int) := by
  unfold gt gtW
  have := piP_bd s (hdP s a) (hdZ s a : Int)
  split
  · split
    · split
      · split
        · split
          · exact this
          · simp
        · simp
      · simp
    · simp
  · simp
theorem info61 : (Try.prog.info? 61).map (·.size) = some 5 := by kernel_rfl
theorem ld61 {ops : Array Oper} {rest : List Oper} {o : Oper} {a : Act} {w : World} {Q : Exit → Act → World → Prop} (x : Operand) {g : Nat} {cs : Array Value} (hg : Ce w g 61 cs) (hs : cs.size = 5) (hgd : o.guard = none) (ho : o.op = .load 61 x)
    (hx : a.eval x = ptr g) (h : wpList Try.prog ops Q rest (a.put o.dst (.agg cs)) w) : wpList Try.prog ops Q (o :: rest) a w :=
  wpList_load_row hgd 61 x ho g hx 61 cs (0, 0) _ hg Try.underlying61 rfl (by rw [hs]; exact info61) h
set_option maxRecDepth 100000 in
set_option maxHeartbeats 12800000 in
theorem gatherR_any (s : ByteArray) (hs : s.size ≤ 1000000) (a0 : Int) (ha : 0 ≤ a0 ∧ a0 ≤ 1000000) (n : Nat) (hn : n < 65536) (w : World) :
    Calls Try.prog 34 #[.string s, .int .i64 a0, .int .u16 (n : Int), .func (.func 35) #[] #[]] w (GlR w (gl (gt s.data.toList) n a0)) := by
  obtain ⟨i0, hi, hz0, hz1, hz2⟩ := info_parts info25
  obtain ⟨G, hG⟩ : ∃ G : Int → Rc × Int × Int, G = gt s.data.toList := ⟨_, rfl⟩
  obtain ⟨R, hR⟩ : ∃ R, R = gl (gt s.data.toList) n a0 := ⟨_, rfl⟩
  rw [← hR]
  have HR : Hid (cat3 [] (gl G (n - 0) a0) = R) := Lib.hid (by rw [cat3_nil, hG, hR]; rfl)
  have HC : Hid (∀ a, 0 ≤ a → a ≤ 1000000 → ∀ w, Calls Try.prog 35 #[.string s, .int .i64 a] w (GetPost w (G a))) := Lib.hid fun a h1 h2 w => by rw [hG]; exact get_any s hs a (by omega) w
  have HP : Hid (∀ a, 0 ≤ (G a).2.1 ∧ (G a).2.1 ≤ 1000000) := Lib.hid fun a => by
    have := gt_place s.data.toList a
    have := size_list s
    rw [hG]; omega
  clear hG hR
  have hni : (n : Int) < 65536 := by omega
  have HA := Lib.hid ha
  clear hs ha hn
  go_enter Try.func34, Try.ntmps34
  go_wp2
  go_loopw [1, 11, 16] (fun a v i wr => ∃ (k : Nat) (p : Int) (qs : List Rc), k ≤ n ∧ i = .int .u16 (k : Int) ∧ a = .int .i64 p ∧ 0 ≤ p ∧ p ≤ 1000000 ∧ qs.length = k ∧ wr.ownsRow w.heap.size 61 5 v qs.length (rcc qs) ∧ Below w.heap.size w wr ∧ cat3 qs (gl G (n - k) p) = R) (fun _ _ i _ => n - (intOf i).toNat)
  case atStart => exact ⟨0, a0, [], by omega, rfl, rfl, HA.out.1, HA.out.2, rfl, World.ownsRow_nil _ _ _ _, Below.refl _ _, HR.out⟩
  case round =>
    clear HR HA
    obtain ⟨k, p, qs, hk, rfl, rfl, hp1, hp2, hql, hown, hb, hE⟩ := hrel
    by_cases hlt : k < n
    · have q1 : (k : Int) < (n : Int) := by omega
      have C := HC.out p hp1 hp2
      have hP := HP.out p
      rw [show n - k = (n - (k + 1)) + 1 by omega] at hE
      have HE := Lib.hid hE
      have HOWN := Lib.hid hown
      have HB := Lib.hid hb
      unfold GetPost at C
      have hbad : Hid ((G p).2.2 ≠ 0 → R = ([], 0, (G p).2.2)) := Lib.hid fun h => by rw [← HE.out]; exact cat3_bad h
      have hgo : Hid ((G p).2.2 = 0 → cat3 (qs ++ [(G p).1]) (gl G (n - (k + 1)) (G p).2.1) = R) := Lib.hid fun h => by rw [← HE.out]; exact (cat3_go h).symm
      generalize G p = Y at C hP hbad hgo
      obtain ⟨⟨yn, yt, yc, yl, yd⟩, p2, er⟩ := Y
      simp only at C hP hbad hgo
      have HCC := Lib.hid C
      clear C hE hown hb HE
      go_wp2_with fail
      refine (HCC.out _).mono ?_
      rintro e w4 ⟨rfl, hb4⟩
      have HB4 := Lib.hid (HB.out.trans (hb4.mono HB.out.size))
      have HO4 := Lib.hid (row_under HOWN.out hb4)
      clear hb4
      by_cases g : er = 0
      · subst g
        have hbx := one_box w4 (.cells #[.string yn, .int .u16 (yt : Int), .int .u16 (yc : Int), .int .u32 (yl : Int), .string yd] 61)
        have HB5 := Lib.hid (HB4.out.trans (hbx.mono HB4.out.size))
        have hown5 := row_under HO4.out hbx
        have C5 := Ce.new w4 61 #[.string yn, .int .u16 (yt : Int), .int .u16 (yc : Int), .int .u32 (yl : Int), .string yd]
        have HC5 := Lib.hid C5
        obtain ⟨va, vc, rfl⟩ := row_slice hown5
        rw [hql] at hown5
        have HO5 := Lib.hid hown5
        clear C5 hown5 hbx
        have hsz := HB4.out.size
        go_wp2_with (first | (refine ld61 (.tmp 12) HC5.out rfl rfl rfl rfl ?_) | (at_builtin; go_loud (refine wpList_append_own_at _ rfl (.tmp 29) (.tmp 31) 24 rfl w.heap.size 61 i0 (.agg #[.string ⟨#[]⟩, .int .u16 0, .int .u16 0, .int .u32 0, .string ⟨#[]⟩]) 5 40 Try.underlying24 hi hz0 hz1 hz2 rfl (by decide) _ k _ rfl (World.ownsRow.alloc HO5.out _) ⟨w4.heap.size + 1, 0, none⟩ 1 1 [.string yn, .int .u16 (yt : Int), .int .u16 (yc : Int), .int .u32 (yl : Int), .string yd] rfl rfl (fun j u hj => World.news_of_block (cs := #[.string yn, .int .u16 (yt : Int), .int .u16 (yc : Int), .int .u32 (yl : Int), .string yd]) (t := 61) (fr := (0, 0)) (by have := heap_alloc_new (w4.alloc (.cells #[.string yn, .int .u16 (yt : Int), .int .u16 (yc : Int), .int .u32 (yl : Int), .string yd] 61)) (.cells #[.string yn, .int .u16 (yt : Int), .int .u16 (yc : Int), .int .u32 (yl : Int), .string yd] 61); rwa [World.size_alloc] at this) j u hj) (by simp [Value.oneCell']) (by unfold maxLen; omega) (by omega) (by simp; omega) ?_)))
        intro v' w7 hown' hgrow _ hat
        have HB7 := Lib.hid (row_grown HO5.out (Nat.le_refl _) HB5.out hgrow)
        have HO7 : Hid (w7.ownsRow w.heap.size 61 5 v' (qs ++ [(⟨yn, yt, yc, yl, yd⟩ : Rc)]).length (rcc (qs ++ [(⟨yn, yt, yc, yl, yd⟩ : Rc)]))) := Lib.hid (by
          rw [rcc_snoc, List.length_append, hql]; exact hown')
        have HQL : Hid ((qs ++ [(⟨yn, yt, yc, yl, yd⟩ : Rc)]).length = k + 1) := Lib.hid (by rw [List.length_append, hql]; rfl)
        have HGO := Lib.hid (hgo.out (by first | trivial | rfl))
        clear hown' hgrow hat hql hgo hbad
        go_wp2
        go_roundw
        case rel => exact ⟨k + 1, p2, _, by omega, by go_num, rfl, hP.1, hP.2, HQL.out, HO7.out, HB7.out, HGO.out⟩
        case measure => simp [intOf]; omega
      · have g' : (er == 0) = false := by simpa using g
        have g'' : (er != 0) = true := by simpa using g
        have HRE := Lib.hid (hbad.out g)
        have HB5 := Lib.hid (HB4.out.trans ((one_box w4 (.cells #[.string yn, .int .u16 (yt : Int), .int .u16 (yc : Int), .int .u32 (yl : Int), .string yd] 61)).mono HB4.out.size))
        clear g hbad hgo hql hi hz0 hz1 hz2
        go_wp2
        go_ret3
        refine ⟨⟨none, 0, 0⟩, ?_, ?_, HB5.out⟩
        · rw [HRE.out]; rfl
        · rw [HRE.out]; exact rdr_nil _
    · obtain rfl : k = n := by omega
      have q1 : decide ((k : Int) < (k : Int)) = false := by simp
      rw [Nat.sub_self, cat3_end] at hE
      obtain ⟨sl, rfl, hsl⟩ := row_rdr hown
      obtain ⟨sa, sn, sc⟩ := sl
      have HS := Lib.hid hsl
      have HE := Lib.hid hE
      have HB := Lib.hid hb
      clear hown hb hE hsl hql hi hz0 hz1 hz2
      go_wp2
      go_ret3
      refine ⟨⟨sa, sn, sc⟩, ?_, ?_, HB.out⟩
      · rw [← HE.out]; rfl
      · rw [← HE.out]; exact HS.out
end Go.Proofs.Ytljfkjbagebncaa
