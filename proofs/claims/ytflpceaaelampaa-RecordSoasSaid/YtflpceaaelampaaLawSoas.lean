/-
  The walk of the law RecordSoas: for every two that zones say it returns true; no older memory is changed.
-/
import Derived.Test.YtflpceaaelampaaSoaData
import Derived.Test.YtflpceaaelampaaLawNil
import Derived.Laws.StructEq
namespace Go.Proofs.Ytflpceaaelampaa
open Go.RowKit
theorem numB_long {n : Nat} (h : n < 4294967296) : numB (long n) = n := by
  simp only [numB, long, List.foldl_cons, List.foldl_nil, UInt8.toNat_ofNat']
  omega
theorem long_inj {a b : Nat} (ha : a < 4294967296) (hb : b < 4294967296) (h : long a = long b) : a = b := by
  rw [← numB_long ha, ← numB_long hb, h]
theorem cut4 {a b p q : Bs} (ha : a.length = 4) (hb : b.length = 4) (h : a ++ p = b ++ q) : a = b ∧ p = q := List.append_inj h (by rw [ha, hb])
theorem sd_ok {x : Sa} (h : (sd x).2 = 0) : chk x.s.data.toList = 0 ∧ chk x.m.data.toList = 0 ∧ (sd x).1 = x.s.data.toList ++ (x.m.data.toList ++ (long x.a ++ (long x.b ++ (long x.c ++ (long x.d ++ long x.e))))) := by
  unfold sd at h ⊢
  by_cases g1 : chk x.s.data.toList = 0
  · rw [if_pos g1] at h ⊢
    by_cases g2 : chk x.m.data.toList = 0
    · rw [if_pos g2]
      exact ⟨g1, g2, by simp⟩
    · rw [if_neg g2] at h; exact absurd h g2
  · rw [if_neg g1] at h; exact absurd h g1
theorem ba_eq (s : ByteArray) : (⟨s.data.toList.toArray⟩ : ByteArray) = s := rfl
theorem ba_inj {s t : ByteArray} (h : s.data.toList = t.data.toList) : s = t := by
  rw [← ba_eq s, ← ba_eq t, h]
theorem sd_inj {x y : Sa} (hx : x.Num) (hy : y.Num) (h1 : (sd x).2 = 0) (h2 : (sd y).2 = 0) (h : (sd x).1 = (sd y).1) : x = y := by
  obtain ⟨a1, a2, a3⟩ := sd_ok h1
  obtain ⟨b1, b2, b3⟩ := sd_ok h2
  rw [a3, b3] at h
  have e := fst1_name (n := x.s.data.toList) (x.m.data.toList ++ (long x.a ++ (long x.b ++ (long x.c ++ (long x.d ++ long x.e))))) a1
  rw [h, fst1_name _ b1] at e
  injection e with e
  injection e with e1 e2
  have e := fst1_name (n := x.m.data.toList) (long x.a ++ (long x.b ++ (long x.c ++ (long x.d ++ long x.e)))) a2
  rw [← e2, fst1_name _ b2] at e
  injection e with e
  injection e with e3 e4
  obtain ⟨l1, e5⟩ := cut4 rfl rfl e4
  obtain ⟨l2, e6⟩ := cut4 rfl rfl e5
  obtain ⟨l3, e7⟩ := cut4 rfl rfl e6
  obtain ⟨l4, l5⟩ := cut4 rfl rfl e7
  have r1 := ba_inj e1
  have r2 := ba_inj e3
  have r3 := long_inj hy.a hx.a l1
  have r4 := long_inj hy.b hx.b l2
  have r5 := long_inj hy.c hx.c l3
  have r6 := long_inj hy.d hx.d l4
  have r7 := long_inj hy.e hx.e l5
  obtain ⟨s, m, a, b, c, d, e⟩ := x
  obtain ⟨s', m', a', b', c', d', e'⟩ := y
  simp only at r1 r2 r3 r4 r5 r6 r7
  subst r1 r2 r3 r4 r5 r6 r7
  rfl
theorem ln_pick {P Q x : Bs} {i : Nat} (hP : P.length = 4 * i) (hx : x.length = 4) : piS (P ++ (x ++ Q)) ((4 * i : Nat) : Int) 4 = x := by
  have h := (pi_cut (s := P ++ (x ++ Q)) (a := 4 * i) (z := 4) (by simp; omega)).1
  rw [show (4 : Int) = ((4 : Nat) : Int) from rfl, h, ← hP, List.drop_left' rfl, ← hx, List.take_left' rfl]
/-- What was made of it is what a record says of it. -/
theorem so_sd {x : Sa} (hx : x.Num) (h : (sd x).2 = 0) : so ⟨⟨#[0]⟩, 6, 0, 0, ⟨(sd x).1.toArray⟩⟩ = (x, 0) := by
  obtain ⟨a1, a2, a3⟩ := sd_ok h
  have l1 := (chk_zero.1 a1).2
  have l2 := (chk_zero.1 a2).2
  rw [a3]
  have hn : nms 6 (x.s.data.toList ++ (x.m.data.toList ++ (long x.a ++ (long x.b ++ (long x.c ++ (long x.d ++ long x.e)))))) = some ([], [x.s.data.toList, x.m.data.toList], long x.a ++ (long x.b ++ (long x.c ++ (long x.d ++ long x.e)))) := by
    unfold nms
    rw [if_neg (by omega), if_neg (by omega), if_pos rfl, fst1_name _ a1]
    simp only [fst1_name _ a2]
    rfl
  have hv : vld 6 (x.s.data.toList ++ (x.m.data.toList ++ (long x.a ++ (long x.b ++ (long x.c ++ (long x.d ++ long x.e)))))) = true := by
    unfold vld; rw [if_pos (by decide), hn]; rfl
  have hl : (x.s.data.toList ++ (x.m.data.toList ++ (long x.a ++ (long x.b ++ (long x.c ++ (long x.d ++ long x.e)))))).length ≤ 2000 := by
    have m1 := size_list x.s
    have m2 := size_list x.m
    simp [long]; omega
  generalize hD : x.s.data.toList ++ (x.m.data.toList ++ (long x.a ++ (long x.b ++ (long x.c ++ (long x.d ++ long x.e))))) = D at hn hv hl
  have hr : rck ⟨⟨#[0]⟩, 6, 0, 0, ⟨D.toArray⟩⟩ = 0 := by
    unfold rck
    simp only
    rw [if_pos (by decide +kernel), if_neg (by show ¬ 2000 < D.length; omega), if_pos hv]
  unfold so
  simp only
  rw [if_pos trivial, if_pos hr, hn]
  simp only [Prod.mk.injEq, and_true]
  unfold saOf ln
  have k0 : piS (long x.a ++ (long x.b ++ (long x.c ++ (long x.d ++ long x.e)))) ((4 * 0 : Nat) : Int) 4 = long x.a := ln_pick (P := []) (x := long x.a) (Q := long x.b ++ (long x.c ++ (long x.d ++ long x.e))) (i := 0) rfl rfl
  have k1 : piS (long x.a ++ (long x.b ++ (long x.c ++ (long x.d ++ long x.e)))) ((4 * 1 : Nat) : Int) 4 = long x.b := ln_pick (P := long x.a) (x := long x.b) (Q := long x.c ++ (long x.d ++ long x.e)) (i := 1) rfl rfl
  have k2 : piS (long x.a ++ (long x.b ++ (long x.c ++ (long x.d ++ long x.e)))) ((4 * 2 : Nat) : Int) 4 = long x.c := by
    have := ln_pick (P := long x.a ++ long x.b) (x := long x.c) (Q := long x.d ++ long x.e) (i := 2) rfl rfl
    simpa using this
  have k3 : piS (long x.a ++ (long x.b ++ (long x.c ++ (long x.d ++ long x.e)))) ((4 * 3 : Nat) : Int) 4 = long x.d := by
    have := ln_pick (P := long x.a ++ long x.b ++ long x.c) (x := long x.d) (Q := long x.e) (i := 3) rfl rfl
    simpa using this
  have k4 : piS (long x.a ++ (long x.b ++ (long x.c ++ (long x.d ++ long x.e)))) ((4 * 4 : Nat) : Int) 4 = long x.e := by
    have := ln_pick (P := long x.a ++ long x.b ++ long x.c ++ long x.d) (x := long x.e) (Q := []) (i := 4) rfl rfl
    simpa using this
  rw [k0, k1, k2, k3, k4, numB_long hx.a, numB_long hx.b, numB_long hx.c, numB_long hx.d, numB_long hx.e]
set_option maxRecDepth 100000 in
set_option maxHeartbeats 25600000 in
theorem lawSoas_any (p : Sa) (hp : p.Num) (q : Sa) (hq : q.Num) (w : World) :
    Calls Try.prog 8 #[p.v, q.v] w fun e w' => e = .returned (.bool true) ∧ Below w.heap.size w w' := by
  obtain ⟨ps, pm, xa, xb, xc, xd, xe⟩ := p
  obtain ⟨qs, qm, ya, yb, yc, yd, ye⟩ := q
  obtain ⟨p1, p2, p3, p4, p5⟩ := hp
  obtain ⟨q1, q2, q3, q4, q5⟩ := hq
  simp only at p1 p2 p3 p4 p5 q1 q2 q3 q4 q5
  obtain ⟨xs, hxs, HXS⟩ := short_any ps 300
  obtain ⟨xm, hxm, HXM⟩ := short_any pm 300
  obtain ⟨ys, hys, HYS⟩ := short_any qs 300
  obtain ⟨ym, hym, HYM⟩ := short_any qm 300
  have nx : Sa.Num ⟨xs, xm, xa, xb, xc, xd, xe⟩ := ⟨p1, p2, p3, p4, p5⟩
  have ny : Sa.Num ⟨ys, ym, ya, yb, yc, yd, ye⟩ := ⟨q1, q2, q3, q4, q5⟩
  have A := fun w => soadata_any ⟨xs, xm, xa, xb, xc, xd, xe⟩ nx (by show xs.size ≤ _; omega) (by show xm.size ≤ _; omega) w
  have B := fun w => soadata_any ⟨ys, ym, ya, yb, yc, yd, ye⟩ ny (by show ys.size ≤ _; omega) (by show ym.size ≤ _; omega) w
  have R := fun w => rsoadata_any ⟨xs, xm, xa, xb, xc, xd, xe⟩ nx (by show xs.size ≤ _; omega) (by show xm.size ≤ _; omega) w
  have SO := fun h => so_sd nx h
  have IN := fun h1 h2 h3 => sd_inj nx ny h1 h2 h3
  have EQ := fun (h : (⟨xs, xm, xa, xb, xc, xd, xe⟩ : Sa) = ⟨ys, ym, ya, yb, yc, yd, ye⟩) => congrArg sd h
  have hlen : (sd ⟨xs, xm, xa, xb, xc, xd, xe⟩).2 = 0 → (sd ⟨xs, xm, xa, xb, xc, xd, xe⟩).1.length ≤ 2000 := fun h => by
    obtain ⟨a1, a2, a3⟩ := sd_ok h
    have l1 := (chk_zero.1 a1).2
    have l2 := (chk_zero.1 a2).2
    have m1 := size_list xs
    have m2 := size_list xm
    rw [a3]; simp only at l1 l2 ⊢; simp [long]; omega
  unfold SdPost at A B R
  generalize sd ⟨xs, xm, xa, xb, xc, xd, xe⟩ = sx at A R SO IN hlen EQ
  generalize sd ⟨ys, ym, ya, yb, yc, yd, ye⟩ = sy at B IN EQ
  obtain ⟨dx, ex⟩ := sx
  obtain ⟨dy, ey⟩ := sy
  simp only at A B R SO IN hlen EQ
  have C := fun (h : ex = 0) w => by
    have := soa_any ⟨⟨#[0]⟩, 6, 0, 0, ⟨dx.toArray⟩⟩ ⟨by show (⟨#[0]⟩ : ByteArray).size ≤ _; decide, by show dx.length ≤ _; have := hlen h; omega, by show 6 < _; omega, by show 0 < _; omega, by show 0 < _; omega⟩ w
    unfold SoPost at this
    rw [SO h] at this
    exact this
  obtain ⟨DX, hDX⟩ : ∃ DX : ByteArray, (⟨dx.toArray⟩ : ByteArray) = DX := ⟨_, rfl⟩
  obtain ⟨DY, hDY⟩ : ∃ DY : ByteArray, (⟨dy.toArray⟩ : ByteArray) = DY := ⟨_, rfl⟩
  have hdx : DX.data.toList = dx := by rw [← hDX]
  have hdy : DY.data.toList = dy := by rw [← hDY]
  rw [show str dx = .string DX by rw [← hDX]] at A R
  rw [show str dy = .string DY by rw [← hDY]] at B
  rw [hDX] at C
  have HEQ : Hid ((⟨xs, xm, xa, xb, xc, xd, xe⟩ : Sa) = ⟨ys, ym, ya, yb, yc, yd, ye⟩ → DX = DY) := Lib.hid fun h => ba_inj (by rw [hdx, hdy]; exact congrArg (fun z => z.1) (EQ h))
  have HIN : Hid (ex = 0 → ey = 0 → DX = DY → (⟨xs, xm, xa, xb, xc, xd, xe⟩ : Sa) = ⟨ys, ym, ya, yb, yc, yd, ye⟩) := Lib.hid fun h1 h2 h3 => IN h1 h2 (by rw [← hdx, ← hdy, h3])
  clear EQ hDX hDY hdx hdy
  have H1 := Lib.hid HXS
  have H2 := Lib.hid HXM
  have H3 := Lib.hid HYS
  have H4 := Lib.hid HYM
  have HA := Lib.hid A
  have HB := Lib.hid B
  have HR := Lib.hid R
  have HC := Lib.hid C
  clear HXS HXM HYS HYM A B R C IN SO hlen nx ny p1 p2 p3 p4 p5 q1 q2 q3 q4 q5 hxs hxm hys hym
  have HT := Lib.hid (two_boxes w 31 31 #[.string ps, .string pm, .int .u32 (xa : Int), .int .u32 (xb : Int), .int .u32 (xc : Int), .int .u32 (xd : Int), .int .u32 (xe : Int)] #[.string qs, .string qm, .int .u32 (ya : Int), .int .u32 (yb : Int), .int .u32 (yc : Int), .int .u32 (yd : Int), .int .u32 (ye : Int)])
  go_enter Try.func8, Try.ntmps8
  go_wp2_with fail
  refine (awake_any _).mono ?_
  rintro e w1 ⟨rfl, hb1⟩
  have P1 := HT.out.1.below hb1
  have Q1 := HT.out.2.1.below hb1
  have h1 := HT.out.2.2.trans (hb1.mono HT.out.2.2.size)
  obtain ⟨x0, x1, x2, x3, x4, x5, x6⟩ := c7 P1
  obtain ⟨y0, y1, y2, y3, y4, y5, y6⟩ := c7 Q1
  obtain ⟨f0, f1, f2, f3, f4, f5, f6⟩ := f7 P1
  obtain ⟨g0, g1, g2, g3, g4, g5, g6⟩ := f7 Q1
  have P2a : Ce _ w.heap.size 31 #[.string xs, .string pm, .int .u32 (xa : Int), .int .u32 (xb : Int), .int .u32 (xc : Int), .int .u32 (xd : Int), .int .u32 (xe : Int)] := P1.set (.string xs) (i := 0)
  have P2b : Ce _ w.heap.size 31 #[.string xs, .string xm, .int .u32 (xa : Int), .int .u32 (xb : Int), .int .u32 (xc : Int), .int .u32 (xd : Int), .int .u32 (xe : Int)] := P2a.set (.string xm) (i := 1)
  have P2c := P2b.other (B' := w.heap.size + 1) (by omega) (.string ys) (i := 0)
  have P2 := P2c.other (B' := w.heap.size + 1) (by omega) (.string ym) (i := 1)
  have Q2a := (Q1.other (B' := w.heap.size) (by omega) (.string xs) (i := 0)).other (B' := w.heap.size) (by omega) (.string xm) (i := 1)
  have Q2b : Ce _ (w.heap.size + 1) 31 #[.string ys, .string qm, .int .u32 (ya : Int), .int .u32 (yb : Int), .int .u32 (yc : Int), .int .u32 (yd : Int), .int .u32 (ye : Int)] := Q2a.set (.string ys) (i := 0)
  have Q2 : Ce _ (w.heap.size + 1) 31 #[.string ys, .string ym, .int .u32 (ya : Int), .int .u32 (yb : Int), .int .u32 (yc : Int), .int .u32 (yd : Int), .int .u32 (ye : Int)] := Q2b.set (.string ym) (i := 1)
  have h2 := (((h1.setCell (p := ⟨w.heap.size, 0, none⟩) (Nat.le_refl _) (.string xs)).setCell (p := ⟨w.heap.size, 1, none⟩) (Nat.le_refl _) (.string xm)).setCell (p := ⟨w.heap.size + 1, 0, none⟩) (Nat.le_succ _) (.string ys)).setCell (p := ⟨w.heap.size + 1, 1, none⟩) (Nat.le_succ _) (.string ym)
  have HP2 := Lib.hid P2
  have HQ2 := Lib.hid Q2
  have HH2 := Lib.hid h2
  clear hb1 P1 Q1 h1 P2a P2b P2c P2 Q2a Q2b Q2 h2
  go_wp2_with fail
  refine (H1.out _).mono ?_
  rintro e w' ⟨rfl, rfl⟩
  go_wp2_with fail
  refine (H2.out _).mono ?_
  rintro e w' ⟨rfl, rfl⟩
  go_wp2_with fail
  refine (H3.out _).mono ?_
  rintro e w' ⟨rfl, rfl⟩
  go_wp2_with fail
  refine (H4.out _).mono ?_
  rintro e w' ⟨rfl, rfl⟩
  go_wp2_with fail
  refine (HA.out _).mono ?_
  rintro e w3 ⟨rfl, hb3⟩
  have P3 := HP2.out.below hb3
  have Q3 := HQ2.out.below hb3
  have h3 := HH2.out.trans (hb3.mono HH2.out.size)
  clear x0 x1 x2 x3 x4 x5 x6 y0 y1 y2 y3 y4 y5 y6 f0 f1 f2 f3 f4 f5 f6 g0 g1 g2 g3 g4 g5 g6 hb3
  obtain ⟨y0, y1, y2, y3, y4, y5, y6⟩ := c7 Q3
  go_wp2_with fail
  refine (HB.out _).mono ?_
  rintro e w4 ⟨rfl, hb4⟩
  have P4 := P3.below hb4
  have Q4 := Q3.below hb4
  have h4 := h3.trans (hb4.mono h3.size)
  clear y0 y1 y2 y3 y4 y5 y6 hb4 P3 Q3 h3
  by_cases ge : ex = 0
  · subst ge
    have HC0 := Lib.hid (HC.out rfl)
    go_wp2_with fail
    refine (HC0.out _).mono ?_
    rintro e w5 ⟨rfl, hb5⟩
    have bx := one_box w5 (.cells #[.string xs, .string xm, .int .u32 (xa : Int), .int .u32 (xb : Int), .int .u32 (xc : Int), .int .u32 (xd : Int), .int .u32 (xe : Int)] 31)
    have P5 := (P4.below hb5).below bx
    have Q5 := (Q4.below hb5).below bx
    have h5 := h4.trans (hb5.mono h4.size)
    have h6 := h5.trans (bx.mono h5.size)
    obtain ⟨x0, x1, x2, x3, x4, x5, x6⟩ := c7 (P4.below hb5)
    have hlt := (P4.below hb5).lt
    have HP5 := Lib.hid P5
    have HQ5 := Lib.hid Q5
    have HH6 := Lib.hid h6
    clear hb5 P4 Q4 h4 P5 Q5 h5 h6 bx
    go_wp2_with fail
    refine (HR.out _).mono ?_
    rintro e w7 ⟨rfl, hb7⟩
    have h7 := HH6.out.trans (hb7.mono HH6.out.size)
    clear x0 x1 x2 x3 x4 x5 x6 hlt
    obtain ⟨x0, x1, x2, x3, x4, x5, x6⟩ := c7 (HP5.out.below hb7)
    obtain ⟨y0, y1, y2, y3, y4, y5, y6⟩ := c7 (HQ5.out.below hb7)
    have HH7 := Lib.hid h7
    clear hb7 h7
    by_cases gy : ey = 0
    · subst gy
      by_cases gd : DX = DY
      · subst gd
        have h := HIN.out (by first | rfl | trivial) (by first | rfl | trivial) (by first | rfl | trivial)
        injection h with e1 e2 e3 e4 e5 e6 e7
        subst e1 e2 e3 e4 e5 e6 e7
        go_wp2
        go_ret
        exact ⟨rfl, HH7.out⟩
      · have qd : (DX.toList == DY.toList) = false := by
          rw [ByteArray.toList_eq, ByteArray.toList_eq]
          simpa using fun h => gd (ba_inj (by simpa using h))
        have hd : (¬ xs = ys) ∨ (xs = ys ∧ ¬ xm = ym) ∨ (xs = ys ∧ xm = ym ∧ ¬ xa = ya) ∨ (xs = ys ∧ xm = ym ∧ xa = ya ∧ ¬ xb = yb) ∨ (xs = ys ∧ xm = ym ∧ xa = ya ∧ xb = yb ∧ ¬ xc = yc) ∨ (xs = ys ∧ xm = ym ∧ xa = ya ∧ xb = yb ∧ xc = yc ∧ ¬ xd = yd) ∨ (xs = ys ∧ xm = ym ∧ xa = ya ∧ xb = yb ∧ xc = yc ∧ xd = yd ∧ ¬ xe = ye) := by
          have hn : ¬ ((⟨xs, xm, xa, xb, xc, xd, xe⟩ : Sa) = ⟨ys, ym, ya, yb, yc, yd, ye⟩) := fun h => gd (HEQ.out h)
          rw [Sa.mk.injEq] at hn
          by_cases z1 : xs = ys
          · by_cases z2 : xm = ym
            · by_cases z3 : xa = ya
              · by_cases z4 : xb = yb
                · by_cases z5 : xc = yc
                  · by_cases z6 : xd = yd
                    · exact .inr (.inr (.inr (.inr (.inr (.inr ⟨z1, z2, z3, z4, z5, z6, fun z7 => hn ⟨z1, z2, z3, z4, z5, z6, z7⟩⟩)))))
                    · exact .inr (.inr (.inr (.inr (.inr (.inl ⟨z1, z2, z3, z4, z5, z6⟩)))))
                  · exact .inr (.inr (.inr (.inr (.inl ⟨z1, z2, z3, z4, z5⟩))))
                · exact .inr (.inr (.inr (.inl ⟨z1, z2, z3, z4⟩)))
              · exact .inr (.inr (.inl ⟨z1, z2, z3⟩))
            · exact .inr (.inl ⟨z1, z2⟩)
          · exact .inl z1
        clear gd
        rcases hd with hne | ⟨rfl, hne⟩ | ⟨rfl, rfl, hne⟩ | ⟨rfl, rfl, rfl, hne⟩ | ⟨rfl, rfl, rfl, rfl, hne⟩ | ⟨rfl, rfl, rfl, rfl, rfl, hne⟩ | ⟨rfl, rfl, rfl, rfl, rfl, rfl, hne⟩
        all_goals
          first
            | (have qn : (xs.toList == ys.toList) = false := by
                rw [ByteArray.toList_eq, ByteArray.toList_eq]
                simpa using fun h => hne (ba_inj (by simpa using h)))
            | (have qn : (xm.toList == ym.toList) = false := by
                rw [ByteArray.toList_eq, ByteArray.toList_eq]
                simpa using fun h => hne (ba_inj (by simpa using h)))
            | (have qn : ((xa : Int) == (ya : Int)) = false := by simp; omega)
            | (have qn : ((xb : Int) == (yb : Int)) = false := by simp; omega)
            | (have qn : ((xc : Int) == (yc : Int)) = false := by simp; omega)
            | (have qn : ((xd : Int) == (yd : Int)) = false := by simp; omega)
            | (have qn : ((xe : Int) == (ye : Int)) = false := by simp; omega)
          clear hne
          go_wp2
          go_ret
          exact ⟨rfl, HH7.out⟩
    · have qy : (ey == 0) = false := by simpa using gy
      have qy' : (ey != 0) = true := by simpa using gy
      clear gy
      go_wp2
      go_ret
      exact ⟨rfl, HH7.out⟩
  · have qx : (ex == 0) = false := by simpa using ge
    have qx' : (ex != 0) = true := by simpa using ge
    obtain ⟨x0, x1, x2, x3, x4, x5, x6⟩ := c7 P4
    have HH4 := Lib.hid h4
    clear ge P4 Q4 h4
    go_wp2_with fail
    refine (HR.out _).mono ?_
    rintro e w7 ⟨rfl, hb7⟩
    have HH7 := Lib.hid (HH4.out.trans (hb7.mono HH4.out.size))
    clear x0 x1 x2 x3 x4 x5 x6 hb7
    go_wp2
    go_ret
    exact ⟨rfl, HH7.out⟩
end Go.Proofs.Ytflpceaaelampaa
