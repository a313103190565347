/-
  Res: What a call hands back where results lie in variables of some cells.
  Head: What the reader of a record's head answers, for every text and place; no older memory is changed.
-/
import Derived.Test.YtljfkjbagebncaaG11
import Derived.Tactics
import Derived.Test.YtljfkjbagebncaaG13

/- Res -/
namespace Go.Proofs.Ytljfkjbagebncaa
open Go.RowKit
section
variable {fn : Func} {w : World} {tmps : Array Value} {n m : Nat}
theorem c5 {v0 v1 v2 v3 v4 : Value} (h : Ce w n 61 #[v0, v1, v2, v3, v4]) : w.cell? ⟨n, 0, none⟩ = some v0 ∧ w.cell? ⟨n, 1, none⟩ = some v1 ∧ w.cell? ⟨n, 2, none⟩ = some v2 ∧ w.cell? ⟨n, 3, none⟩ = some v3 ∧ w.cell? ⟨n, 4, none⟩ = some v4 := by
  refine ⟨?_, ?_, ?_, ?_, ?_⟩ <;> (rw [h.cell]; rfl)
theorem c3 {v0 v1 v2 : Value} {T : TypeId} (h : Ce w n T #[v0, v1, v2]) : w.cell? ⟨n, 0, none⟩ = some v0 ∧ w.cell? ⟨n, 1, none⟩ = some v1 ∧ w.cell? ⟨n, 2, none⟩ = some v2 := by
  refine ⟨?_, ?_, ?_⟩ <;> (rw [h.cell]; rfl)
theorem c7 {v0 v1 v2 v3 v4 v5 v6 : Value} {T : TypeId} (h : Ce w n T #[v0, v1, v2, v3, v4, v5, v6]) : w.cell? ⟨n, 0, none⟩ = some v0 ∧ w.cell? ⟨n, 1, none⟩ = some v1 ∧ w.cell? ⟨n, 2, none⟩ = some v2 ∧ w.cell? ⟨n, 3, none⟩ = some v3 ∧ w.cell? ⟨n, 4, none⟩ = some v4 ∧ w.cell? ⟨n, 5, none⟩ = some v5 ∧ w.cell? ⟨n, 6, none⟩ = some v6 := by
  refine ⟨?_, ?_, ?_, ?_, ?_, ?_, ?_⟩ <;> (rw [h.cell]; rfl)
theorem res5 {t : Tmp} (h : fn.results = #[.cell t 61]) (e1 : tmps.getD t undef = ptr n) {v0 v1 v2 v3 v4 : Value} (h1 : Ce w n 61 #[v0, v1, v2, v3, v4]) :
    (results fn tmps).run Try.prog w = .ok (.agg #[v0, v1, v2, v3, v4]) w := by
  obtain ⟨a0, a1, a2, a3, a4⟩ := c5 h1
  rw [Array.getD_eq_getD_getElem?] at e1
  simp [results, h, e1, go_sem, a0, a1, a2, a3, a4]
theorem res5tt {t u v : Tmp} (h : fn.results = #[.cell t 61, .tmp u, .tmp v]) (e1 : tmps.getD t undef = ptr n) {v0 v1 v2 v3 v4 : Value} (h1 : Ce w n 61 #[v0, v1, v2, v3, v4]) :
    (results fn tmps).run Try.prog w = .ok (.tuple #[.agg #[v0, v1, v2, v3, v4], tmps.getD u undef, tmps.getD v undef]) w := by
  obtain ⟨a0, a1, a2, a3, a4⟩ := c5 h1
  rw [Array.getD_eq_getD_getElem?] at e1
  simp [results, h, e1, go_sem, a0, a1, a2, a3, a4]
theorem res53t {t u v : Tmp} (h : fn.results = #[.cell t 61, .cell u 105, .tmp v]) (e1 : tmps.getD t undef = ptr n) (e2 : tmps.getD u undef = ptr m) {v0 v1 v2 v3 v4 u0 u1 u2 : Value} (h1 : Ce w n 61 #[v0, v1, v2, v3, v4]) (h2 : Ce w m 105 #[u0, u1, u2]) :
    (results fn tmps).run Try.prog w = .ok (.tuple #[.agg #[v0, v1, v2, v3, v4], .agg #[u0, u1, u2], tmps.getD v undef]) w := by
  obtain ⟨a0, a1, a2, a3, a4⟩ := c5 h1
  obtain ⟨b0, b1, b2⟩ := c3 h2
  rw [Array.getD_eq_getD_getElem?] at e1 e2
  simp [results, h, e1, e2, go_sem, a0, a1, a2, a3, a4, b0, b1, b2]
end
end Go.Proofs.Ytljfkjbagebncaa

/- Head -/
namespace Go.Proofs.Ytljfkjbagebncaa
open Go.RowKit
/-- The numbers of a record's head. -/
def gT (f : Bs) : Nat := numB (piS f 0 2)
def gC (f : Bs) : Nat := numB (piS f 2 2)
def gL (f : Bs) : Nat := numB (piS f 4 4)
def gZ (f : Bs) : Nat := numB (piS f 8 2)
theorem numB_pi (s : Bs) (a : Int) (z : Nat) : numB (piS s a (z : Int)) < 256 ^ z := by
  have h1 := numB_lt (piS s a (z : Int))
  have h2 : (piS s a (z : Int)).length ≤ z := by
    unfold piS; split
    · simp; omega
    · simp
  exact Nat.lt_of_lt_of_le h1 (Nat.pow_le_pow_right (by decide) h2)
theorem gT_lt (f : Bs) : gT f < 65536 := numB_pi f 0 2
theorem gC_lt (f : Bs) : gC f < 65536 := numB_pi f 2 2
theorem gL_lt (f : Bs) : gL f < 4294967296 := numB_pi f 4 4
theorem gZ_lt (f : Bs) : gZ f < 65536 := numB_pi f 8 2
def zeroR : Rc := ⟨⟨#[]⟩, 0, 0, 0, ⟨#[]⟩⟩
abbrev plV (s : ByteArray) (a z : Int) : Value := .agg #[.string s, .int .i64 a, .int .i64 z]
/-- What head answers: the name's error, or that the ten bytes are not there, or all of it. -/
def hdE (s : Bs) (a : Int) : Int := if (nmI s a).2.2 = 0 then piR s ((nmI s a).2.1 : Int) 10 else ((nmI s a).2.2 : Int)
abbrev hdF (s : Bs) (a : Int) : Bs := piS s ((nmI s a).2.1 : Int) 10
abbrev hdR (s : Bs) (a : Int) : Rc := ⟨⟨(nmI s a).1.toArray⟩, gT (hdF s a), gC (hdF s a), gL (hdF s a), ⟨#[]⟩⟩
abbrev hdP (s : Bs) (a : Int) : Int := piP s ((nmI s a).2.1 : Int) 10
abbrev hdZ (s : Bs) (a : Int) : Nat := gZ (hdF s a)
theorem two_boxes (w : World) (T U : TypeId) (cs ds : Array Value) :
    let w' := (w.alloc (.cells cs T)).alloc (.cells ds U)
    Ce w' w.heap.size T cs ∧ Ce w' (w.heap.size + 1) U ds ∧ Below w.heap.size w w' := by
  intro w'
  have h1 := Ce.new (w.alloc (.cells cs T)) U ds
  rw [World.size_alloc] at h1
  exact ⟨(Ce.new w T cs).below (one_box _ _), h1, two_new_below w _ _⟩
abbrev zc : Array Value := #[.string ⟨#[]⟩, .int .u16 0, .int .u16 0, .int .u32 0, .string ⟨#[]⟩]
abbrev zp : Array Value := #[.string ⟨#[]⟩, .int .i64 0, .int .i64 0]
theorem below_sets {w w2 : World} (h : Below w.heap.size w w2) (v0 v1 v2 v3 v4 u0 u1 u2 : Value) :
    Below w.heap.size w ((((((((w2.setCell ⟨w.heap.size, 0, none⟩ v0).setCell ⟨w.heap.size, 1, none⟩ v1).setCell ⟨w.heap.size, 2, none⟩ v2).setCell ⟨w.heap.size, 3, none⟩ v3).setCell ⟨w.heap.size, 4, none⟩ v4).setCell ⟨w.heap.size + 1, 0, none⟩ u0).setCell ⟨w.heap.size + 1, 1, none⟩ u1).setCell ⟨w.heap.size + 1, 2, none⟩ u2) :=
  (((((((h.setCell (p := ⟨w.heap.size, 0, none⟩) (Nat.le_refl _) v0).setCell (p := ⟨w.heap.size, 1, none⟩) (Nat.le_refl _) v1).setCell (p := ⟨w.heap.size, 2, none⟩) (Nat.le_refl _) v2).setCell (p := ⟨w.heap.size, 3, none⟩) (Nat.le_refl _) v3).setCell (p := ⟨w.heap.size, 4, none⟩) (Nat.le_refl _) v4).setCell (p := ⟨w.heap.size + 1, 0, none⟩) (Nat.le_succ _) u0).setCell (p := ⟨w.heap.size + 1, 1, none⟩) (Nat.le_succ _) u1).setCell (p := ⟨w.heap.size + 1, 2, none⟩) (Nat.le_succ _) u2
abbrev setsW (w w2 : World) (v0 v1 v2 v3 v4 u0 u1 u2 : Value) : World := ((((((((w2.setCell ⟨w.heap.size, 0, none⟩ v0).setCell ⟨w.heap.size, 1, none⟩ v1).setCell ⟨w.heap.size, 2, none⟩ v2).setCell ⟨w.heap.size, 3, none⟩ v3).setCell ⟨w.heap.size, 4, none⟩ v4).setCell ⟨w.heap.size + 1, 0, none⟩ u0).setCell ⟨w.heap.size + 1, 1, none⟩ u1).setCell ⟨w.heap.size + 1, 2, none⟩ u2)
theorem sets_plain {w w2 : World} (b0 : Ce w2 w.heap.size 61 zc) (b1 : Ce w2 (w.heap.size + 1) 105 zp) (v0 v1 v2 v3 v4 u0 u1 u2 : Value) :
    Ce (setsW w w2 v0 v1 v2 v3 v4 u0 u1 u2) w.heap.size 61 #[v0, v1, v2, v3, v4] ∧ Ce (setsW w w2 v0 v1 v2 v3 v4 u0 u1 u2) (w.heap.size + 1) 105 #[u0, u1, u2] := by
  have k0 := (((((((b0.set v0 (i := 0)).set v1 (i := 1)).set v2 (i := 2)).set v3 (i := 3)).set v4 (i := 4)).other (B' := w.heap.size + 1) (by omega) u0 (i := 0)).other (B' := w.heap.size + 1) (by omega) u1 (i := 1)).other (B' := w.heap.size + 1) (by omega) u2 (i := 2)
  have k1 := (((((((b1.other (B' := w.heap.size) (by omega) v0 (i := 0)).other (B' := w.heap.size) (by omega) v1 (i := 1)).other (B' := w.heap.size) (by omega) v2 (i := 2)).other (B' := w.heap.size) (by omega) v3 (i := 3)).other (B' := w.heap.size) (by omega) v4 (i := 4)).set u0 (i := 0)).set u1 (i := 1)).set u2 (i := 2)
  exact ⟨k0, k1⟩
theorem sets_alloc {w w2 : World} (b0 : Ce w2 w.heap.size 61 zc) (b1 : Ce w2 (w.heap.size + 1) 105 zp) (v0 v1 v2 v3 v4 u0 u1 u2 : Value) (o : Obj) :
    Ce ((setsW w w2 v0 v1 v2 v3 v4 u0 u1 u2).alloc o) w.heap.size 61 #[v0, v1, v2, v3, v4] ∧ Ce ((setsW w w2 v0 v1 v2 v3 v4 u0 u1 u2).alloc o) (w.heap.size + 1) 105 #[u0, u1, u2] :=
  let ⟨k0, k1⟩ := sets_plain b0 b1 v0 v1 v2 v3 v4 u0 u1 u2
  ⟨k0.below (one_box _ _), k1.below (one_box _ _)⟩
set_option maxRecDepth 100000 in
set_option maxHeartbeats 6400000 in
theorem head_any (s : ByteArray) (hs : s.size ≤ 140737488351232) (a : Int) (ha : -9223372036854775808 ≤ a ∧ a ≤ 9223372036854775807) (w : World) :
    Calls Try.prog 71 #[.string s, .int .i64 a] w fun e w' => ((hdE s.data.toList a = 0 ∧ e = .returned (.tuple #[(hdR s.data.toList a).v, plV s (hdP s.data.toList a) (hdZ s.data.toList a : Int), .int .i64 0])) ∨
      (hdE s.data.toList a ≠ 0 ∧ e = .returned (.tuple #[zeroR.v, plV ⟨#[]⟩ 0 0, .int .i64 (hdE s.data.toList a)]))) ∧ Below w.heap.size w w' := by
  have HN := Lib.hid (two_boxes w 61 105 zc zp)
  have C := fun w => name_any s hs a ha w
  have hpl := nmI_place_any s.data.toList a
  have hln := nmI_len s.data.toList a
  unfold nmV at C
  unfold hdE hdR hdP hdZ hdF
  generalize nmI s.data.toList a = N at C hpl hln ⊢
  obtain ⟨n, p, er⟩ := N
  simp only at C hpl hln ⊢
  have HC := Lib.hid C
  have hsl := size_list s
  have hpb : -9223372036854775808 ≤ (p : Int) ∧ (p : Int) ≤ 9223372036854775807 := by omega
  clear C
  by_cases g1 : er = 0
  · subst g1
    rw [if_pos rfl]
    have D := fun w => raw_any s hs (p : Int) 10 hpb (by omega) w
    unfold pcV at D
    have hfl : (piS s.data.toList (p : Int) 10).length ≤ 10 := by
      unfold piS; split
      · simp; omega
      · simp
    have hpb2 := piP_bd s.data.toList (p : Int) 10
    have hrr := piR_bd s.data.toList (p : Int) 10
    generalize piS s.data.toList (p : Int) 10 = f at D hfl ⊢
    generalize piP s.data.toList (p : Int) 10 = p' at D hpb2 ⊢
    generalize piR s.data.toList (p : Int) 10 = e' at D hrr ⊢
    have HD := Lib.hid D
    clear D
    by_cases g2 : e' = 0
    · subst g2
      have hfs : (⟨f.toArray⟩ : ByteArray).size ≤ 140737488351232 := by show f.length ≤ _; omega
      have W1 : ∀ w : World, Calls Try.prog 40 #[str f, .int .i64 0] w fun e w' => e = .returned (.tuple #[.int .u16 (gT f : Int), .int .i64 (piP f 0 2), .int .i64 (piR f 0 2)]) ∧ w = w' := fun w => word_any ⟨f.toArray⟩ hfs 0 (by omega) w
      have W2 : ∀ w : World, Calls Try.prog 40 #[str f, .int .i64 2] w fun e w' => e = .returned (.tuple #[.int .u16 (gC f : Int), .int .i64 (piP f 2 2), .int .i64 (piR f 2 2)]) ∧ w = w' := fun w => word_any ⟨f.toArray⟩ hfs 2 (by omega) w
      have W3 : ∀ w : World, Calls Try.prog 101 #[str f, .int .i64 4] w fun e w' => e = .returned (.tuple #[.int .u32 (gL f : Int), .int .i64 (piP f 4 4), .int .i64 (piR f 4 4)]) ∧ w = w' := fun w => long_any ⟨f.toArray⟩ hfs 4 (by omega) w
      have W4 : ∀ w : World, Calls Try.prog 40 #[str f, .int .i64 8] w fun e w' => e = .returned (.tuple #[.int .u16 (gZ f : Int), .int .i64 (piP f 8 2), .int .i64 (piR f 8 2)]) ∧ w = w' := fun w => word_any ⟨f.toArray⟩ hfs 8 (by omega) w
      have hz := gZ_lt f
      have hzi : 0 ≤ (gZ f : Int) ∧ (gZ f : Int) < 65536 := by omega
      generalize gT f = vt at W1 ⊢
      generalize gC f = vc at W2 ⊢
      generalize gL f = vl at W3 ⊢
      generalize gZ f = vz at W4 hz hzi ⊢
      have H1 := Lib.hid W1
      have H2 := Lib.hid W2
      have H3 := Lib.hid W3
      have H4 := Lib.hid W4
      clear W1 W2 W3 W4 hz hrr hfl hln
      go_enter Try.func71, Try.ntmps71
      go_wp2_with fail
      refine (HC.out _).mono ?_
      rintro e w1 ⟨rfl, hb1⟩
      have bb1 := HN.out.2.2.trans (hb1.mono HN.out.2.2.size)
      have B0 := HN.out.1.below hb1
      have B1 := HN.out.2.1.below hb1
      clear hb1
      go_wp2_with fail
      refine (HD.out _).mono ?_
      rintro e w2 ⟨rfl, hb2⟩
      have bb2 := bb1.trans (hb2.mono bb1.size)
      have b0 := B0.below hb2
      have b1 := B1.below hb2
      clear hb2 bb1 B0 B1
      have l0 := b0.lt
      have l1 := b1.lt
      have x0 := b0.cell 0
      have x1 := b0.cell 1
      have x2 := b0.cell 2
      have x3 := b0.cell 3
      have x4 := b0.cell 4
      have f0 := b0.frozen 0
      have f1 := b0.frozen 1
      have f2 := b0.frozen 2
      have f3 := b0.frozen 3
      have f4 := b0.frozen 4
      have y0 := b1.cell 0
      have y1 := b1.cell 1
      have y2 := b1.cell 2
      have e0 := b1.frozen 0
      have e1 := b1.frozen 1
      have e2 := b1.frozen 2
      simp at x0 x1 x2 x3 x4 y0 y1 y2
      have n0 : w.heap.size ≠ w2.heap.size := by omega
      have n1 : w.heap.size + 1 ≠ w2.heap.size := by omega
      have HB2 := Lib.hid bb2
      have hsz := bb2.size
      have HZ := Lib.hid (sets_alloc b0 b1 (str n) (.int .u16 (vt : Int)) (.int .u16 (vc : Int)) (.int .u32 (vl : Int)) (.string ⟨#[]⟩) (.string s) (.int .i64 p') (.int .i64 (vz : Int)) (.cells #[str n, .int .u16 (vt : Int), .int .u16 (vc : Int), .int .u32 (vl : Int), .string ⟨#[]⟩] 61))
      clear bb2 b0 b1
      go_wp2_with fail
      refine (H1.out _).mono ?_
      rintro e w3 ⟨rfl, rfl⟩
      go_wp2_with fail
      refine (H2.out _).mono ?_
      rintro e w3 ⟨rfl, rfl⟩
      go_wp2_with fail
      refine (H3.out _).mono ?_
      rintro e w3 ⟨rfl, rfl⟩
      go_wp2_with fail
      refine (H4.out _).mono ?_
      rintro e w3 ⟨rfl, rfl⟩
      go_wp2
      refine bodyPost_ret (res53t rfl rfl rfl HZ.out.1 HZ.out.2) rfl ?_
      exact ⟨.inl ⟨trivial, rfl⟩, (below_sets HB2.out _ _ _ _ _ _ _ _).alloc (by simpa using hsz) _⟩
    · have q : (e' == 0) = false := by simpa using g2
      have q' : (e' != 0) = true := by simpa using g2
      have G2 := Lib.hid g2
      clear g2 hrr hfl hln
      go_enter Try.func71, Try.ntmps71
      go_wp2_with fail
      refine (HC.out _).mono ?_
      rintro e w1 ⟨rfl, hb1⟩
      have bb1 := HN.out.2.2.trans (hb1.mono HN.out.2.2.size)
      have B0 := HN.out.1.below hb1
      have B1 := HN.out.2.1.below hb1
      clear hb1
      go_wp2_with fail
      refine (HD.out _).mono ?_
      rintro e w2 ⟨rfl, hb2⟩
      have bb2 := bb1.trans (hb2.mono bb1.size)
      have b0 := B0.below hb2
      have b1 := B1.below hb2
      clear hb2 bb1 B0 B1
      have l0 := b0.lt
      have l1 := b1.lt
      have x0 := b0.cell 0
      have x1 := b0.cell 1
      have x2 := b0.cell 2
      have x3 := b0.cell 3
      have x4 := b0.cell 4
      have f0 := b0.frozen 0
      have f1 := b0.frozen 1
      have f2 := b0.frozen 2
      have f3 := b0.frozen 3
      have f4 := b0.frozen 4
      have y0 := b1.cell 0
      have y1 := b1.cell 1
      have y2 := b1.cell 2
      have e0 := b1.frozen 0
      have e1 := b1.frozen 1
      have e2 := b1.frozen 2
      simp at x0 x1 x2 x3 x4 y0 y1 y2
      have HB2 := Lib.hid bb2
      have HZ := Lib.hid (sets_plain b0 b1 (.string ⟨#[]⟩) (.int .u16 0) (.int .u16 0) (.int .u32 0) (.string ⟨#[]⟩) (.string ⟨#[]⟩) (.int .i64 0) (.int .i64 0))
      clear bb2 b0 b1
      go_wp2
      refine bodyPost_ret (res53t rfl rfl rfl HZ.out.1 HZ.out.2) rfl ?_
      exact ⟨.inr ⟨G2.out, rfl⟩, below_sets HB2.out _ _ _ _ _ _ _ _⟩
  · have q : ((er : Int) == 0) = false := by simp; omega
    have q' : ((er : Int) != 0) = true := by simp; omega
    have G2 : Hid ((er : Int) ≠ 0) := Lib.hid (by omega)
    rw [if_neg g1]
    clear g1 hln
    go_enter Try.func71, Try.ntmps71
    go_wp2_with fail
    refine (HC.out _).mono ?_
    rintro e w1 ⟨rfl, hb1⟩
    have bb2 := HN.out.2.2.trans (hb1.mono HN.out.2.2.size)
    have b0 := HN.out.1.below hb1
    have b1 := HN.out.2.1.below hb1
    clear hb1
    have l0 := b0.lt
    have l1 := b1.lt
    have x0 := b0.cell 0
    have x1 := b0.cell 1
    have x2 := b0.cell 2
    have x3 := b0.cell 3
    have x4 := b0.cell 4
    have f0 := b0.frozen 0
    have f1 := b0.frozen 1
    have f2 := b0.frozen 2
    have f3 := b0.frozen 3
    have f4 := b0.frozen 4
    have y0 := b1.cell 0
    have y1 := b1.cell 1
    have y2 := b1.cell 2
    have e0 := b1.frozen 0
    have e1 := b1.frozen 1
    have e2 := b1.frozen 2
    simp at x0 x1 x2 x3 x4 y0 y1 y2
    have HB2 := Lib.hid bb2
    have HZ := Lib.hid (sets_plain b0 b1 (.string ⟨#[]⟩) (.int .u16 0) (.int .u16 0) (.int .u32 0) (.string ⟨#[]⟩) (.string ⟨#[]⟩) (.int .i64 0) (.int .i64 0))
    clear bb2 b0 b1
    go_wp2
    refine bodyPost_ret (res53t rfl rfl rfl HZ.out.1 HZ.out.2) rfl ?_
    exact ⟨.inr ⟨G2.out, rfl⟩, below_sets HB2.out _ _ _ _ _ _ _ _⟩
end Go.Proofs.Ytljfkjbagebncaa
