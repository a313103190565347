/-
  What a record says of a zone: what Soa answers, by the program and by the document; for every record. No older memory is changed.
-/
import Derived.Test.YtflpceaaelampaaRefCheck
import Derived.Test.YtflpceaaelampaaHead
import Derived.Test.YtflpceaaelampaaPutRec
import Derived.Test.YtflpceaaelampaaRecArg
import Derived.StillTailTactics
namespace Go.Proofs.Ytflpceaaelampaa
open Go.RowKit
def zeroS : Sa := ⟨⟨#[]⟩, ⟨#[]⟩, 0, 0, 0, 0, 0⟩
def ln (q : Bs) (i : Nat) : Nat := numB (piS q ((4 * i : Nat) : Int) 4)
def saOf (n m q : Bs) : Sa := ⟨⟨n.toArray⟩, ⟨m.toArray⟩, ln q 0, ln q 1, ln q 2, ln q 3, ln q 4⟩
/-- What Soa answers. -/
def so (r : Rc) : Sa × Int :=
  if r.t = 6 then (if rck r = 0 then (match nms 6 r.d.data.toList with
    | some (_, [n, m], q) => (saOf n m q, 0)
    | _ => (zeroS, 0)) else (zeroS, rck r)) else (zeroS, 12)
theorem soa_shape {d : Bs} (h : vld 6 d = true) : ∃ n m q, nms 6 d = some ([], [n, m], q) ∧ pts 6 d = [(true, n), (true, m), (false, q)] ∧ q.length ≤ d.length := by
  unfold vld at h
  rw [if_pos (by decide)] at h
  obtain ⟨x, hx⟩ := Option.isSome_iff_exists.1 h
  have hp : pts 6 d = ptsOf 6 x := by unfold pts; rw [if_pos (by decide), hx]
  unfold nms at hx
  rw [if_neg (by omega), if_neg (by omega), if_pos rfl] at hx
  cases hf : fst1 d with
  | none => rw [hf] at hx; simp at hx
  | some p =>
    obtain ⟨n, r⟩ := p
    rw [hf] at hx
    simp only at hx
    cases hg : fst1 r with
    | none => rw [hg] at hx; simp at hx
    | some p =>
      obtain ⟨m, q⟩ := p
      rw [hg] at hx
      simp only at hx
      split at hx
      · rename_i h20
        injection hx with hx
        obtain ⟨e1, _⟩ := fst1_some hf
        obtain ⟨e2, _⟩ := fst1_some hg
        refine ⟨n, m, q, ?_, ?_, ?_⟩
        · unfold nms
          rw [if_neg (by omega), if_neg (by omega), if_pos rfl, hf]
          simp only [hg]
          rw [if_pos h20]
        · rw [hp, ← hx]; rfl
        · rw [e1, e2]; simp; omega
      · cases hx
theorem numB_four (q : Bs) (a : Int) : numB (piS q a 4) < 4294967296 := by
  have h1 := numB_lt (piS q a 4)
  have h2 : (piS q a 4).length ≤ 4 := by
    unfold piS; split
    · simp; omega
    · simp
  exact Nat.lt_of_lt_of_le h1 (Nat.pow_le_pow_right (by decide) h2)
theorem ln_lt (q : Bs) (i : Nat) : ln q i < 4294967296 := numB_four q _
abbrev zs7 : Array Value := #[.string ⟨#[]⟩, .string ⟨#[]⟩, .int .u32 0, .int .u32 0, .int .u32 0, .int .u32 0, .int .u32 0]
abbrev set7 (w : World) (n : Nat) (v0 v1 v2 v3 v4 v5 v6 : Value) : World := ((((((w.setCell ⟨n, 0, none⟩ v0).setCell ⟨n, 1, none⟩ v1).setCell ⟨n, 2, none⟩ v2).setCell ⟨n, 3, none⟩ v3).setCell ⟨n, 4, none⟩ v4).setCell ⟨n, 5, none⟩ v5).setCell ⟨n, 6, none⟩ v6
theorem set7_ce {w : World} {n : Nat} {c0 c1 c2 c3 c4 c5 c6 : Value} (b : Ce w n 31 #[c0, c1, c2, c3, c4, c5, c6]) (v0 v1 v2 v3 v4 v5 v6 : Value) : Ce (set7 w n v0 v1 v2 v3 v4 v5 v6) n 31 #[v0, v1, v2, v3, v4, v5, v6] := by
  have h0 : Ce _ n 31 #[v0, c1, c2, c3, c4, c5, c6] := b.set v0 (i := 0)
  have h1 : Ce _ n 31 #[v0, v1, c2, c3, c4, c5, c6] := h0.set v1 (i := 1)
  have h2 : Ce _ n 31 #[v0, v1, v2, c3, c4, c5, c6] := h1.set v2 (i := 2)
  have h3 : Ce _ n 31 #[v0, v1, v2, v3, c4, c5, c6] := h2.set v3 (i := 3)
  have h4 : Ce _ n 31 #[v0, v1, v2, v3, v4, c5, c6] := h3.set v4 (i := 4)
  have h5 : Ce _ n 31 #[v0, v1, v2, v3, v4, v5, c6] := h4.set v5 (i := 5)
  exact h5.set v6 (i := 6)
theorem set7_below {w w2 : World} {n : Nat} (h : Below w.heap.size w w2) (hn : w.heap.size ≤ n) (v0 v1 v2 v3 v4 v5 v6 : Value) : Below w.heap.size w (set7 w2 n v0 v1 v2 v3 v4 v5 v6) :=
  ((((((h.setCell (p := ⟨n, 0, none⟩) hn v0).setCell (p := ⟨n, 1, none⟩) hn v1).setCell (p := ⟨n, 2, none⟩) hn v2).setCell (p := ⟨n, 3, none⟩) hn v3).setCell (p := ⟨n, 4, none⟩) hn v4).setCell (p := ⟨n, 5, none⟩) hn v5).setCell (p := ⟨n, 6, none⟩) hn v6
theorem f7 {w : World} {n : Nat} {T : TypeId} {cs : Array Value} (h : Ce w n T cs) : w.frozen? ⟨n, 0, none⟩ = false ∧ w.frozen? ⟨n, 1, none⟩ = false ∧ w.frozen? ⟨n, 2, none⟩ = false ∧ w.frozen? ⟨n, 3, none⟩ = false ∧ w.frozen? ⟨n, 4, none⟩ = false ∧ w.frozen? ⟨n, 5, none⟩ = false ∧ w.frozen? ⟨n, 6, none⟩ = false :=
  ⟨h.frozen 0, h.frozen 1, h.frozen 2, h.frozen 3, h.frozen 4, h.frozen 5, h.frozen 6⟩
def SoPost (w : World) (x : Sa × Int) (e : Ending) (w' : World) : Prop := e = .returned (.tuple #[x.1.v, .int .i64 x.2]) ∧ Below w.heap.size w w'
set_option maxRecDepth 100000 in
set_option maxHeartbeats 1600000 in
theorem rlong_any (q : ByteArray) (hq : q.size ≤ 1000000) (i : Nat) (hi : i ≤ 4) (w : World) :
    Calls Try.prog 35 #[.string q, .int .i64 (i : Int)] w fun e w' => e = .returned (.int .u32 (ln q.data.toList i : Int)) ∧ w' = w := by
  have C := rnumber_any q (by omega) ((4 * i : Nat) : Int) 4 (by omega) (by omega) w
  have hl := ln_lt q.data.toList i
  unfold nuV at C
  have e : numB (piS q.data.toList ((4 * i : Nat) : Int) 4) = ln q.data.toList i := rfl
  rw [e] at C
  generalize ln q.data.toList i = v at C hl ⊢
  rw [show ((4 * i : Nat) : Int) = 4 * (i : Int) by omega] at C
  have hvi : 0 ≤ (v : Int) ∧ (v : Int) < 4294967296 := by omega
  have hii : (i : Int) ≤ 4 := by omega
  have HC := Lib.hid C
  clear C hl e
  go_enter Try.func35, Try.ntmps35
  go_wp2_with fail
  refine HC.out.mono ?_
  rintro e w' ⟨rfl, rfl⟩
  go_wp2
  go_ret
  exact ⟨rfl, rfl⟩
set_option maxRecDepth 100000 in
set_option maxHeartbeats 6400000 in
theorem rsoa_any (r : Rc) (hr : r.Ok) (hn : r.n.size ≤ 1000000) (hd : r.d.size ≤ 1000000) (w : World) :
    Calls Try.prog 15 #[r.v] w (SoPost w (so r)) := by
  have C := fun w => rrcheck_any r hr hn w
  have N := fun w => rnames_any 6 (by omega) r.d hd w
  have HT2 := two_boxes w 25 31 r.cells zs7
  obtain ⟨T, hT⟩ : ∃ T, T = so r := ⟨_, rfl⟩
  rw [← hT]
  by_cases g1 : r.t = 6
  · by_cases g2 : rck r = 0
    · have hv := (rck_zero g2).2.2
      rw [g1] at hv
      obtain ⟨n1, n2, q, e1, e2, e3⟩ := soa_shape hv
      have hT2 : T = (saOf n1 n2 q, 0) := by rw [hT]; unfold so; rw [if_pos g1, if_pos g2, e1]
      rw [if_pos (by decide), e1] at N
      rw [g2] at C
      have hql : (⟨q.toArray⟩ : ByteArray).size ≤ 1000000 := by rw [← size_list] at e3; show q.length ≤ _; omega
      have L0 : ∀ w : World, Calls Try.prog 35 #[str q, .int .i64 0] w fun e w' => e = .returned (.int .u32 (ln q 0 : Int)) ∧ w' = w := fun w => rlong_any ⟨q.toArray⟩ hql 0 (by omega) w
      have L1 : ∀ w : World, Calls Try.prog 35 #[str q, .int .i64 1] w fun e w' => e = .returned (.int .u32 (ln q 1 : Int)) ∧ w' = w := fun w => rlong_any ⟨q.toArray⟩ hql 1 (by omega) w
      have L2 : ∀ w : World, Calls Try.prog 35 #[str q, .int .i64 2] w fun e w' => e = .returned (.int .u32 (ln q 2 : Int)) ∧ w' = w := fun w => rlong_any ⟨q.toArray⟩ hql 2 (by omega) w
      have L3 : ∀ w : World, Calls Try.prog 35 #[str q, .int .i64 3] w fun e w' => e = .returned (.int .u32 (ln q 3 : Int)) ∧ w' = w := fun w => rlong_any ⟨q.toArray⟩ hql 3 (by omega) w
      have L4 : ∀ w : World, Calls Try.prog 35 #[str q, .int .i64 4] w fun e w' => e = .returned (.int .u32 (ln q 4 : Int)) ∧ w' = w := fun w => rlong_any ⟨q.toArray⟩ hql 4 (by omega) w
      unfold saOf at hT2
      generalize ln q 0 = l0 at L0 hT2
      generalize ln q 1 = l1 at L1 hT2
      generalize ln q 2 = l2 at L2 hT2
      generalize ln q 3 = l3 at L3 hT2
      generalize ln q 4 = l4 at L4 hT2
      unfold NmPost at N
      have HT := Lib.hid hT2
      have HC := Lib.hid C
      have HN := Lib.hid N
      have H2 := Lib.hid HT2
      have K0 := Lib.hid L0
      have K1 := Lib.hid L1
      have K2 := Lib.hid L2
      have K3 := Lib.hid L3
      have K4 := Lib.hid L4
      clear hT hT2 C N HT2 L0 L1 L2 L3 L4 hv e1 e2 e3 g2
      obtain ⟨n, t, c, l, d⟩ := r
      simp only at g1
      subst g1
      go_enter Try.func15, Try.ntmps15
      go_wp2_with fail
      refine (HC.out _).mono ?_
      rintro e w1 ⟨rfl, hb1⟩
      have A1 := H2.out.1.below hb1
      have B1 := H2.out.2.1.below hb1
      have h1 := H2.out.2.2.trans (hb1.mono H2.out.2.2.size)
      obtain ⟨x0, x1, x2, x3, x4⟩ := c5 A1
      clear hb1
      go_wp2_with fail
      refine (HN.out _).mono ?_
      rintro e w2 ⟨⟨a, v, b, rfl, hv⟩, hb2⟩
      obtain ⟨rfl, rfl, hO⟩ := hv _ rfl
      have B2 := B1.below hb2
      have h2 := h1.trans (hb2.mono h1.size)
      obtain ⟨a', cap', rfl⟩ := row_slice hO
      obtain ⟨g, rfl, hg, hc⟩ := row_at hO (by simp)
      have c0 := hc 0 _ rfl
      have c1 := hc 1 _ rfl
      have hlen0 : (0 : Int) < (([n1, n2] : List Bs).length : Int) := by simp
      have hlen1 : (1 : Int) < (([n1, n2] : List Bs).length : Int) := by simp
      have HO := Lib.hid hO
      have HB2 := Lib.hid B2
      have HH2 := Lib.hid h2
      clear hb2 hc h1 x0 x1 x2 x3 x4 A1 B1 hO hv B2 h2
      go_wp2
      go_still_tail 17, (by kernel_rfl)
      still_call (K0.out _)
      repeat still_step
      still_call (K1.out _)
      repeat still_step
      still_call (K2.out _)
      repeat still_step
      still_call (K3.out _)
      repeat still_step
      still_call (K4.out _)
      repeat still_step
      refine wpStill_nil ?_
      change wpList _ _ _ _ _ w2.drew
      have hdr : Below w2.heap.size w2 w2.drew := (Below.refl _ w2).drew
      have B3 := HB2.out.below hdr
      have h3 := HH2.out.trans (hdr.mono HH2.out.size)
      clear hdr
      generalize w2.drew = w3 at B3 h3 ⊢
      obtain ⟨y0, y1, y2, y3, y4, y5, y6⟩ := c7 B3
      obtain ⟨f0, f1, f2, f3, f4, f5, f6⟩ := f7 B3
      have HZ := Lib.hid (set7_ce B3 (str n1) (str n2) (.int .u32 (l0 : Int)) (.int .u32 (l1 : Int)) (.int .u32 (l2 : Int)) (.int .u32 (l3 : Int)) (.int .u32 (l4 : Int)))
      have H3 := Lib.hid h3
      clear B3 h3
      go_wp2
      refine bodyPost_ret (res7t rfl rfl HZ.out) rfl ?_
      rw [HT.out]
      exact ⟨rfl, set7_below H3.out (Nat.le_succ _) _ _ _ _ _ _ _⟩
    · have hT2 : T = (zeroS, rck r) := by rw [hT]; unfold so; rw [if_pos g1, if_neg g2]
      generalize rck r = ck at C g2 hT2
      have q : (ck == 0) = false := by simpa using g2
      have q' : (ck != 0) = true := by simpa using g2
      have HT := Lib.hid hT2
      have HC := Lib.hid C
      have H2 := Lib.hid HT2
      clear hT hT2 C N HT2 g2
      obtain ⟨n, t, c, l, d⟩ := r
      simp only at g1
      subst g1
      go_enter Try.func15, Try.ntmps15
      go_wp2_with fail
      refine (HC.out _).mono ?_
      rintro e w1 ⟨rfl, hb1⟩
      have B3 := H2.out.2.1.below hb1
      have h3 := H2.out.2.2.trans (hb1.mono H2.out.2.2.size)
      obtain ⟨y0, y1, y2, y3, y4, y5, y6⟩ := c7 B3
      obtain ⟨f0, f1, f2, f3, f4, f5, f6⟩ := f7 B3
      have HZ := Lib.hid (set7_ce B3 (.string ⟨#[]⟩) (.string ⟨#[]⟩) (.int .u32 0) (.int .u32 0) (.int .u32 0) (.int .u32 0) (.int .u32 0))
      have H3 := Lib.hid h3
      clear B3 h3 hb1
      go_wp2
      refine bodyPost_ret (res7t rfl rfl HZ.out) rfl ?_
      rw [HT.out]
      exact ⟨rfl, set7_below H3.out (Nat.le_succ _) _ _ _ _ _ _ _⟩
  · have hT2 : T = (zeroS, 12) := by rw [hT]; unfold so; rw [if_neg g1]
    have HT := Lib.hid hT2
    have H2 := Lib.hid HT2
    clear hT hT2 C N HT2
    obtain ⟨n, t, c, l, d⟩ := r
    simp only at g1
    have q : ((t : Int) == 6) = false := by simp; omega
    have q' : ((t : Int) != 6) = true := by simp; omega
    clear g1
    go_enter Try.func15, Try.ntmps15
    go_wp2
    refine bodyPost_ret (res7t rfl rfl H2.out.2.1) rfl ?_
    rw [HT.out]
    exact ⟨rfl, H2.out.2.2⟩
/-- The numbers as they come one by one. -/
def sk (n1 n2 : Bs) (l0 l1 l2 l3 l4 : Nat) : Nat → Array Value
  | 0 => #[str n1, str n2, .int .u32 0, .int .u32 0, .int .u32 0, .int .u32 0, .int .u32 0]
  | 1 => #[str n1, str n2, .int .u32 (l0 : Int), .int .u32 0, .int .u32 0, .int .u32 0, .int .u32 0]
  | 2 => #[str n1, str n2, .int .u32 (l0 : Int), .int .u32 (l1 : Int), .int .u32 0, .int .u32 0, .int .u32 0]
  | 3 => #[str n1, str n2, .int .u32 (l0 : Int), .int .u32 (l1 : Int), .int .u32 (l2 : Int), .int .u32 0, .int .u32 0]
  | 4 => #[str n1, str n2, .int .u32 (l0 : Int), .int .u32 (l1 : Int), .int .u32 (l2 : Int), .int .u32 (l3 : Int), .int .u32 0]
  | _ => #[str n1, str n2, .int .u32 (l0 : Int), .int .u32 (l1 : Int), .int .u32 (l2 : Int), .int .u32 (l3 : Int), .int .u32 (l4 : Int)]
set_option maxRecDepth 100000 in
set_option maxHeartbeats 12800000 in
theorem soa_any (r : Rc) (hr : r.Ok) (w : World) :
    Calls Try.prog 14 #[r.v] w (SoPost w (so r)) := by
  have C := fun w => rcheckrec_any r hr w
  have N := fun w => split_any r.t hr.t r.d hr.d w
  have HT2 := two_boxes w 25 31 r.cells zs7
  obtain ⟨T, hT⟩ : ∃ T, T = so r := ⟨_, rfl⟩
  rw [← hT]
  by_cases g1 : r.t = 6
  · by_cases g2 : rck r = 0
    · have hv := (rck_zero g2).2.2
      rw [(spl_pts hv).1, (spl_pts hv).2] at N
      rw [g1] at hv N
      obtain ⟨n1, n2, q, e1, e2, e3⟩ := soa_shape hv
      have hT2 : T = (saOf n1 n2 q, 0) := by rw [hT]; unfold so; rw [if_pos g1, if_pos g2, e1]
      rw [e2] at N
      rw [g2] at C
      have hd := hr.d
      have hql : (⟨q.toArray⟩ : ByteArray).size ≤ 140737488351232 := by rw [← size_list] at e3; show q.length ≤ _; omega
      have L0 : ∀ w : World, Calls Try.prog 34 #[str q, .int .i64 0] w fun e w' => e = .returned (.tuple #[.int .u32 (ln q 0 : Int), .int .i64 (piP q 0 4), .int .i64 (piR q 0 4)]) ∧ w = w' := fun w => long_any ⟨q.toArray⟩ hql 0 (by omega) w
      have L1 : ∀ w : World, Calls Try.prog 34 #[str q, .int .i64 4] w fun e w' => e = .returned (.tuple #[.int .u32 (ln q 1 : Int), .int .i64 (piP q 4 4), .int .i64 (piR q 4 4)]) ∧ w = w' := fun w => long_any ⟨q.toArray⟩ hql 4 (by omega) w
      have L2 : ∀ w : World, Calls Try.prog 34 #[str q, .int .i64 8] w fun e w' => e = .returned (.tuple #[.int .u32 (ln q 2 : Int), .int .i64 (piP q 8 4), .int .i64 (piR q 8 4)]) ∧ w = w' := fun w => long_any ⟨q.toArray⟩ hql 8 (by omega) w
      have L3 : ∀ w : World, Calls Try.prog 34 #[str q, .int .i64 12] w fun e w' => e = .returned (.tuple #[.int .u32 (ln q 3 : Int), .int .i64 (piP q 12 4), .int .i64 (piR q 12 4)]) ∧ w = w' := fun w => long_any ⟨q.toArray⟩ hql 12 (by omega) w
      have L4 : ∀ w : World, Calls Try.prog 34 #[str q, .int .i64 16] w fun e w' => e = .returned (.tuple #[.int .u32 (ln q 4 : Int), .int .i64 (piP q 16 4), .int .i64 (piR q 16 4)]) ∧ w = w' := fun w => long_any ⟨q.toArray⟩ hql 16 (by omega) w
      unfold saOf at hT2
      generalize ln q 0 = l0 at L0 hT2
      generalize ln q 1 = l1 at L1 hT2
      generalize ln q 2 = l2 at L2 hT2
      generalize ln q 3 = l3 at L3 hT2
      generalize ln q 4 = l4 at L4 hT2
      have HT := Lib.hid hT2
      have HC := Lib.hid C
      have HN := Lib.hid N
      have H2 := Lib.hid HT2
      have K0 := Lib.hid L0
      have K1 := Lib.hid L1
      have K2 := Lib.hid L2
      have K3 := Lib.hid L3
      have K4 := Lib.hid L4
      clear hT hT2 C N HT2 L0 L1 L2 L3 L4 hv e1 e2 e3 g2 hd
      obtain ⟨n, t, c, l, d⟩ := r
      simp only at g1
      subst g1
      go_enter Try.func14, Try.ntmps14
      go_wp2_with fail
      refine (HC.out _).mono ?_
      rintro e w1 ⟨rfl, hb1⟩
      have A1 := H2.out.1.below hb1
      have B1 := H2.out.2.1.below hb1
      have h1 := H2.out.2.2.trans (hb1.mono H2.out.2.2.size)
      obtain ⟨x0, x1, x2, x3, x4⟩ := c5 A1
      clear hb1
      go_wp2_with fail
      refine (HN.out _).mono ?_
      rintro e w2 ⟨v, rfl, hO, hb2⟩
      have B2 := B1.below hb2
      have h2 := h1.trans (hb2.mono h1.size)
      obtain ⟨a', cap', rfl⟩ := row_slice hO
      obtain ⟨g, rfl, hg, hc⟩ := row_at hO (by simp)
      have d1 := hc 1 _ rfl
      have d3 := hc 3 _ rfl
      have d5 := hc 5 _ rfl
      have hlen0 : (0 : Int) < (([(true, n1), (true, n2), (false, q)] : List Part).length : Int) := by simp
      have hlen1 : (1 : Int) < (([(true, n1), (true, n2), (false, q)] : List Part).length : Int) := by simp
      have HB2 := Lib.hid B2
      have HH2 := Lib.hid h2
      have HD5 := Lib.hid d5
      clear hb2 hc h1 x0 x1 x2 x3 x4 A1 B1 hO B2 h2 d5
      go_wp2
      go_region
      have S3 := (Ce.new w2 31 #[str n1, str n2, .int .u32 0, .int .u32 0, .int .u32 0, .int .u32 0, .int .u32 0]).below ((Below.refl _ _).drew)
      have hb3 := (one_box w2 (.cells #[str n1, str n2, .int .u32 0, .int .u32 0, .int .u32 0, .int .u32 0, .int .u32 0] 31)).drew
      generalize (World.alloc w2 _).drew = w3 at S3 hb3 ⊢
      have P3 := Ce.new w3 68 #[.pointer (some ⟨w2.heap.size, 2, none⟩), .pointer (some ⟨w2.heap.size, 3, none⟩), .pointer (some ⟨w2.heap.size, 4, none⟩), .pointer (some ⟨w2.heap.size, 5, none⟩), .pointer (some ⟨w2.heap.size, 6, none⟩)]
      have S4 := S3.below (one_box w3 (.cells #[.pointer (some ⟨w2.heap.size, 2, none⟩), .pointer (some ⟨w2.heap.size, 3, none⟩), .pointer (some ⟨w2.heap.size, 4, none⟩), .pointer (some ⟨w2.heap.size, 5, none⟩), .pointer (some ⟨w2.heap.size, 6, none⟩)] 68))
      have hb4 := hb3.alloc hb3.size (.cells #[.pointer (some ⟨w2.heap.size, 2, none⟩), .pointer (some ⟨w2.heap.size, 3, none⟩), .pointer (some ⟨w2.heap.size, 4, none⟩), .pointer (some ⟨w2.heap.size, 5, none⟩), .pointer (some ⟨w2.heap.size, 6, none⟩)] 68)
      have HLT := Lib.hid S3.lt
      have HP3 := Lib.hid P3
      have HS4 := Lib.hid S4
      have HB4 := Lib.hid hb4
      clear S3 hb3 P3 S4 hb4 d1 d3
      go_wp2
      go_loopw [44] (fun i wr => ∃ k : Nat, k ≤ 5 ∧ i = .int .i64 k ∧ Ce wr w2.heap.size 31 (sk n1 n2 l0 l1 l2 l3 l4 k) ∧ Ce wr w3.heap.size 68 #[.pointer (some ⟨w2.heap.size, 2, none⟩), .pointer (some ⟨w2.heap.size, 3, none⟩), .pointer (some ⟨w2.heap.size, 4, none⟩), .pointer (some ⟨w2.heap.size, 5, none⟩), .pointer (some ⟨w2.heap.size, 6, none⟩)] ∧ Below w2.heap.size w2 wr) (fun i _ => 5 - (intOf i).toNat)
      case atStart => exact ⟨0, by omega, rfl, HS4.out, HP3.out, HB4.out⟩
      case round =>
        clear HS4 HP3 HB4
        obtain ⟨k, hk, rfl, hS, hP, hb⟩ := hrel
        have z5 := (hb.cell (p := ⟨g, 5, none⟩) hg).trans HD5.out
        have p0 := hP.cell 0
        have p1 := hP.cell 1
        have p2 := hP.cell 2
        have p3 := hP.cell 3
        have p4 := hP.cell 4
        simp at p0 p1 p2 p3 p4
        rcases (by omega : k = 0 ∨ k = 1 ∨ k = 2 ∨ k = 3 ∨ k = 4 ∨ k = 5) with rfl | rfl | rfl | rfl | rfl | rfl
        · obtain ⟨y0, y1, y2, y3, y4, y5, y6⟩ := c7 (show Ce wr w2.heap.size 31 #[str n1, str n2, .int .u32 0, .int .u32 0, .int .u32 0, .int .u32 0, .int .u32 0] from hS)
          have ff := hS.frozen 2
          rw [show ((0 : Nat) : Int) = 0 from rfl]
          have HS := Lib.hid hS
          have HP := Lib.hid hP
          have HB := Lib.hid hb
          clear hS hP hb
          go_wp2_with fail
          refine (K0.out _).mono ?_
          rintro e w' ⟨rfl, rfl⟩
          go_wp2
          go_roundw
          case rel => exact ⟨1, by omega, rfl, HS.out.set _ (i := 2), HP.out.other (B' := w2.heap.size) (by have := HLT.out; omega) _, HB.out.setCell (p := ⟨w2.heap.size, 2, none⟩) (Nat.le_refl _) _⟩
          case measure => simp [intOf]
        · obtain ⟨y0, y1, y2, y3, y4, y5, y6⟩ := c7 (show Ce wr w2.heap.size 31 #[str n1, str n2, .int .u32 (l0 : Int), .int .u32 0, .int .u32 0, .int .u32 0, .int .u32 0] from hS)
          have ff := hS.frozen 3
          rw [show ((1 : Nat) : Int) = 1 from rfl]
          have HS := Lib.hid hS
          have HP := Lib.hid hP
          have HB := Lib.hid hb
          clear hS hP hb
          go_wp2_with fail
          refine (K1.out _).mono ?_
          rintro e w' ⟨rfl, rfl⟩
          go_wp2
          go_roundw
          case rel => exact ⟨2, by omega, rfl, HS.out.set _ (i := 3), HP.out.other (B' := w2.heap.size) (by have := HLT.out; omega) _, HB.out.setCell (p := ⟨w2.heap.size, 3, none⟩) (Nat.le_refl _) _⟩
          case measure => simp [intOf]
        · obtain ⟨y0, y1, y2, y3, y4, y5, y6⟩ := c7 (show Ce wr w2.heap.size 31 #[str n1, str n2, .int .u32 (l0 : Int), .int .u32 (l1 : Int), .int .u32 0, .int .u32 0, .int .u32 0] from hS)
          have ff := hS.frozen 4
          rw [show ((2 : Nat) : Int) = 2 from rfl]
          have HS := Lib.hid hS
          have HP := Lib.hid hP
          have HB := Lib.hid hb
          clear hS hP hb
          go_wp2_with fail
          refine (K2.out _).mono ?_
          rintro e w' ⟨rfl, rfl⟩
          go_wp2
          go_roundw
          case rel => exact ⟨3, by omega, rfl, HS.out.set _ (i := 4), HP.out.other (B' := w2.heap.size) (by have := HLT.out; omega) _, HB.out.setCell (p := ⟨w2.heap.size, 4, none⟩) (Nat.le_refl _) _⟩
          case measure => simp [intOf]
        · obtain ⟨y0, y1, y2, y3, y4, y5, y6⟩ := c7 (show Ce wr w2.heap.size 31 #[str n1, str n2, .int .u32 (l0 : Int), .int .u32 (l1 : Int), .int .u32 (l2 : Int), .int .u32 0, .int .u32 0] from hS)
          have ff := hS.frozen 5
          rw [show ((3 : Nat) : Int) = 3 from rfl]
          have HS := Lib.hid hS
          have HP := Lib.hid hP
          have HB := Lib.hid hb
          clear hS hP hb
          go_wp2_with fail
          refine (K3.out _).mono ?_
          rintro e w' ⟨rfl, rfl⟩
          go_wp2
          go_roundw
          case rel => exact ⟨4, by omega, rfl, HS.out.set _ (i := 5), HP.out.other (B' := w2.heap.size) (by have := HLT.out; omega) _, HB.out.setCell (p := ⟨w2.heap.size, 5, none⟩) (Nat.le_refl _) _⟩
          case measure => simp [intOf]
        · obtain ⟨y0, y1, y2, y3, y4, y5, y6⟩ := c7 (show Ce wr w2.heap.size 31 #[str n1, str n2, .int .u32 (l0 : Int), .int .u32 (l1 : Int), .int .u32 (l2 : Int), .int .u32 (l3 : Int), .int .u32 0] from hS)
          have ff := hS.frozen 6
          rw [show ((4 : Nat) : Int) = 4 from rfl]
          have HS := Lib.hid hS
          have HP := Lib.hid hP
          have HB := Lib.hid hb
          clear hS hP hb
          go_wp2_with fail
          refine (K4.out _).mono ?_
          rintro e w' ⟨rfl, rfl⟩
          go_wp2
          go_roundw
          case rel => exact ⟨5, by omega, rfl, HS.out.set _ (i := 6), HP.out.other (B' := w2.heap.size) (by have := HLT.out; omega) _, HB.out.setCell (p := ⟨w2.heap.size, 6, none⟩) (Nat.le_refl _) _⟩
          case measure => simp [intOf]
        · have hS5 : Ce wr w2.heap.size 31 #[str n1, str n2, .int .u32 (l0 : Int), .int .u32 (l1 : Int), .int .u32 (l2 : Int), .int .u32 (l3 : Int), .int .u32 (l4 : Int)] := hS
          obtain ⟨y0, y1, y2, y3, y4, y5, y6⟩ := c7 hS5
          rw [show ((5 : Nat) : Int) = 5 from rfl]
          have B5 := HB2.out.below hb
          have h5 := HH2.out.trans (hb.mono HH2.out.size)
          obtain ⟨u0, u1, u2, u3, u4, u5, u6⟩ := c7 B5
          obtain ⟨f0, f1, f2, f3, f4, f5, f6⟩ := f7 B5
          have HZ := Lib.hid (set7_ce B5 (str n1) (str n2) (.int .u32 (l0 : Int)) (.int .u32 (l1 : Int)) (.int .u32 (l2 : Int)) (.int .u32 (l3 : Int)) (.int .u32 (l4 : Int)))
          have H5 := Lib.hid h5
          clear B5 h5 hS hS5 hP hb
          go_wp2
          refine bodyPost_ret (res7t rfl rfl HZ.out) rfl ?_
          rw [HT.out]
          exact ⟨rfl, set7_below H5.out (Nat.le_succ _) _ _ _ _ _ _ _⟩
    · have hT2 : T = (zeroS, rck r) := by rw [hT]; unfold so; rw [if_pos g1, if_neg g2]
      generalize rck r = ck at C g2 hT2
      have q : (ck == 0) = false := by simpa using g2
      have q' : (ck != 0) = true := by simpa using g2
      have HT := Lib.hid hT2
      have HC := Lib.hid C
      have H2 := Lib.hid HT2
      clear hT hT2 C N HT2 g2
      obtain ⟨n, t, c, l, d⟩ := r
      simp only at g1
      subst g1
      go_enter Try.func14, Try.ntmps14
      go_wp2_with fail
      refine (HC.out _).mono ?_
      rintro e w1 ⟨rfl, hb1⟩
      have B3 := H2.out.2.1.below hb1
      have h3 := H2.out.2.2.trans (hb1.mono H2.out.2.2.size)
      obtain ⟨y0, y1, y2, y3, y4, y5, y6⟩ := c7 B3
      obtain ⟨f0, f1, f2, f3, f4, f5, f6⟩ := f7 B3
      have HZ := Lib.hid (set7_ce B3 (.string ⟨#[]⟩) (.string ⟨#[]⟩) (.int .u32 0) (.int .u32 0) (.int .u32 0) (.int .u32 0) (.int .u32 0))
      have H3 := Lib.hid h3
      clear B3 h3 hb1
      go_wp2
      refine bodyPost_ret (res7t rfl rfl HZ.out) rfl ?_
      rw [HT.out]
      exact ⟨rfl, set7_below H3.out (Nat.le_succ _) _ _ _ _ _ _ _⟩
  · have hT2 : T = (zeroS, 12) := by rw [hT]; unfold so; rw [if_neg g1]
    have HT := Lib.hid hT2
    have H2 := Lib.hid HT2
    clear hT hT2 C N HT2
    obtain ⟨n, t, c, l, d⟩ := r
    simp only at g1
    have q : ((t : Int) == 6) = false := by simp; omega
    have q' : ((t : Int) != 6) = true := by simp; omega
    clear g1
    go_enter Try.func14, Try.ntmps14
    go_wp2
    refine bodyPost_ret (res7t rfl rfl H2.out.2.1) rfl ?_
    rw [HT.out]
    exact ⟨rfl, H2.out.2.2⟩
end Go.Proofs.Ytflpceaaelampaa
