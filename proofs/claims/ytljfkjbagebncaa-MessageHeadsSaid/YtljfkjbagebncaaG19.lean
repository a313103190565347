/-
  GetWalk: What Get answers, for every text and place; no older memory is changed.
-/
import Derived.Test.YtljfkjbagebncaaG18

/- GetWalk -/
namespace Go.Proofs.Ytljfkjbagebncaa
open Go.RowKit
abbrev set5 (w : World) (n : Nat) (v0 v1 v2 v3 v4 : Value) : World := ((((w.setCell ⟨n, 0, none⟩ v0).setCell ⟨n, 1, none⟩ v1).setCell ⟨n, 2, none⟩ v2).setCell ⟨n, 3, none⟩ v3).setCell ⟨n, 4, none⟩ v4
theorem set5_ce {w : World} {n : Nat} {c0 c1 c2 c3 c4 : Value} (b : Ce w n 61 #[c0, c1, c2, c3, c4]) (v0 v1 v2 v3 v4 : Value) : Ce (set5 w n v0 v1 v2 v3 v4) n 61 #[v0, v1, v2, v3, v4] :=
  ((((b.set v0 (i := 0)).set v1 (i := 1)).set v2 (i := 2)).set v3 (i := 3)).set v4 (i := 4)
theorem set5_below {w w2 : World} {n : Nat} (h : Below w.heap.size w w2) (hn : w.heap.size ≤ n) (v0 v1 v2 v3 v4 : Value) : Below w.heap.size w (set5 w2 n v0 v1 v2 v3 v4) :=
  ((((h.setCell (p := ⟨n, 0, none⟩) hn v0).setCell (p := ⟨n, 1, none⟩) hn v1).setCell (p := ⟨n, 2, none⟩) hn v2).setCell (p := ⟨n, 3, none⟩) hn v3).setCell (p := ⟨n, 4, none⟩) hn v4
theorem set5_two {w : World} {n : Nat} {c0 c1 c2 c3 c4 : Value} (b : Ce w n 61 #[c0, c1, c2, c3, c4]) (v0 v1 v2 v3 v4 : Value) (o p : Obj) : Ce (((set5 w n v0 v1 v2 v3 v4).alloc o).alloc p) n 61 #[v0, v1, v2, v3, v4] :=
  ((set5_ce b v0 v1 v2 v3 v4).below (one_box _ _)).below (one_box _ _)
theorem set5_two_below {w w2 : World} {n : Nat} (h : Below w.heap.size w w2) (hn : w.heap.size ≤ n) (v0 v1 v2 v3 v4 : Value) (o p : Obj) : Below w.heap.size w (((set5 w2 n v0 v1 v2 v3 v4).alloc o).alloc p) := by
  have h1 := set5_below h hn v0 v1 v2 v3 v4
  have h2 := h1.alloc h1.size o
  exact h2.alloc h2.size p
/-- What the four ways out are. -/
def gtW (F e2 p2 P ck : Int) (r : Rc) : Rc × Int × Int := if F = 0 then (if e2 = 0 then (if p2 = P then (if ck = 0 then (r, P, 0) else (zeroR, 0, ck)) else (zeroR, 0, 10)) else (zeroR, 0, e2)) else (zeroR, 0, F)
def GetPost (w : World) (x : Rc × Int × Int) (e : Ending) (w' : World) : Prop := e = .returned (.tuple #[x.1.v, .int .i64 x.2.1, .int .i64 x.2.2]) ∧ Below w.heap.size w w'
theorem gp_zero {w w' : World} {x : Rc × Int × Int} {E : Int} (h : x = (zeroR, 0, E)) (hb : Below w.heap.size w w') : GetPost w x (.returned (.tuple #[.agg zc, .int .i64 0, .int .i64 E])) w' := by
  subst h; exact ⟨rfl, hb⟩
set_option maxRecDepth 100000 in
set_option maxHeartbeats 3200000 in
theorem get_nohead (s : ByteArray) (a E : Int) (hE : E ≠ 0) (w : World)
    (C : ∀ w : World, Calls Try.prog 71 #[.string s, .int .i64 a] w fun e w' => e = .returned (.tuple #[zeroR.v, plV ⟨#[]⟩ 0 0, .int .i64 E]) ∧ Below w.heap.size w w') :
    Calls Try.prog 35 #[.string s, .int .i64 a] w (GetPost w (zeroR, 0, E)) := by
    have HC := Lib.hid C
    have q : (E == 0) = false := by simpa using hE
    have q' : (E != 0) = true := by simpa using hE
    clear C hE
    go_enter Try.func35, Try.ntmps35
    go_wp2_with fail
    refine (HC.out _).mono ?_
    rintro e w1 ⟨rfl, hb1⟩
    have bb1 := (one_box w (.cells zc 61)).trans (hb1.mono (one_box w (.cells zc 61)).size)
    have B0 := (Ce.new w 61 zc).below hb1
    clear hb1
    have x0 := B0.cell 0
    have f0 := B0.frozen 0
    have x1 := B0.cell 1
    have f1 := B0.frozen 1
    have x2 := B0.cell 2
    have f2 := B0.frozen 2
    have x3 := B0.cell 3
    have f3 := B0.frozen 3
    have x4 := B0.cell 4
    have f4 := B0.frozen 4
    simp at x0 x1 x2 x3 x4
    have l0 := B0.lt
    have n1 : w.heap.size ≠ w1.heap.size := by omega
    have n2 : w.heap.size ≠ w1.heap.size + 1 := by omega
    have HZ := Lib.hid (set5_two B0 (.string ⟨#[]⟩) (.int .u16 0) (.int .u16 0) (.int .u32 0) (.string ⟨#[]⟩))
    have HB := Lib.hid bb1
    clear B0 bb1
    go_wp2
    refine bodyPost_ret (res5tt rfl rfl (HZ.out _ _)) rfl ?_
    exact gp_zero rfl (set5_two_below HB.out (Nat.le_refl _) _ _ _ _ _ _ _)
set_option maxRecDepth 100000 in
set_option maxHeartbeats 12800000 in
theorem get_66 (s : ByteArray) (a : Int) (n d : ByteArray) (t c l : Nat) (q z P F p2 e2 ck : Int) (X : Bs) (ps : List Part) (w : World)
    (C : ∀ w : World, Calls Try.prog 71 #[.string s, .int .i64 a] w fun e w' => e = .returned (.tuple #[.agg #[.string n, .int .u16 (t : Int), .int .u16 (c : Int), .int .u32 (l : Int), .string ⟨#[]⟩], plV s q z, .int .i64 0]) ∧ Below w.heap.size w w')
    (D : ∀ w : World, Calls Try.prog 72 #[.string s, .int .i64 q, .int .i64 z] w fun e w' => e = .returned (.tuple #[str X, .int .i64 P, .int .i64 F]) ∧ Below w.heap.size w w')
    (R1 : ∀ w : World, Calls Try.prog 73 #[plV s q z, .int .u16 (t : Int)] w fun e w' => e = .returned (.func (.func 103) #[plV s q z] #[]) ∧ Below w.heap.size w w')
    (R2 : ∀ w : World, Calls Try.prog 103 #[plV s q z] w fun e w' => ∃ v, e = .returned (.tuple #[v, .int .i64 p2, .int .i64 e2]) ∧ Pts w' w.heap.size v ps ∧ Below w.heap.size w w')
    (J : ∀ (w : World) (base : Nat) (v : Value), Pts w base v ps → Calls Try.prog 74 #[v] w fun e w' => e = .returned (.string d) ∧ Below w.heap.size w w')
    (V : ∀ w : World, Calls Try.prog 55 #[.agg #[.string n, .int .u16 (t : Int), .int .u16 (c : Int), .int .u32 (l : Int), .string d]] w fun e w' => e = .returned (.int .i64 ck) ∧ Below w.heap.size w w') :
    Calls Try.prog 35 #[.string s, .int .i64 a] w (GetPost w (gtW F e2 p2 P ck ⟨n, t, c, l, d⟩)) := by
    have HC := Lib.hid C
    have HD := Lib.hid D
    have H1 := Lib.hid R1
    have H2 := Lib.hid R2
    have HJ := Lib.hid J
    have HV := Lib.hid V
    clear C D R1 R2 J V
    obtain ⟨rs, hrs⟩ : ∃ rs, rs = gtW F e2 p2 P ck ⟨n, t, c, l, d⟩ := ⟨_, rfl⟩
    rw [← hrs]
    have HR := Lib.hid hrs
    clear hrs
    go_enter Try.func35, Try.ntmps35
    go_wp2_with fail
    refine (HC.out _).mono ?_
    rintro e w1 ⟨rfl, hb1⟩
    have bb1 := (one_box w (.cells zc 61)).trans (hb1.mono (one_box w (.cells zc 61)).size)
    have B0 := (Ce.new w 61 zc).below hb1
    clear hb1
    have l0 := B0.lt
    have n1 : w.heap.size ≠ w1.heap.size := by omega
    have n2 : w.heap.size ≠ w1.heap.size + 1 := by omega
    have HT := Lib.hid (two_boxes w1 61 105 #[.string n, .int .u16 (t : Int), .int .u16 (c : Int), .int .u32 (l : Int), .string ⟨#[]⟩] #[.string s, .int .i64 q, .int .i64 z])
    have HB1 := Lib.hid bb1
    have HB0 := Lib.hid B0
    clear bb1 B0
    go_wp2_with fail
    refine (HD.out _).mono ?_
    rintro e w2 ⟨rfl, hb2⟩
    have hT2 := HT.out.2.2
    have T0 := HT.out.1.below hb2
    have T1 := HT.out.2.1.below hb2
    have A0 := (HB0.out.below hT2).below hb2
    have hb12 := hT2.trans (hb2.mono hT2.size)
    have bb2 := HB1.out.trans (hb12.mono HB1.out.size)
    clear hb2 hT2 hb12
    by_cases g1 : F = 0
    · subst g1
      have tx0 := T0.cell 0
      have tf0 := T0.frozen 0
      have tx1 := T0.cell 1
      have tf1 := T0.frozen 1
      have tx2 := T0.cell 2
      have tf2 := T0.frozen 2
      have tx3 := T0.cell 3
      have tf3 := T0.frozen 3
      have tx4 := T0.cell 4
      have tf4 := T0.frozen 4
      simp at tx0 tx1 tx2 tx3 tx4
      have p0 := T1.cell 0
      have p1 := T1.cell 1
      have p3 := T1.cell 2
      simp at p0 p1 p3
      have HT0 := Lib.hid T0
      have HA0 := Lib.hid A0
      have HB2 := Lib.hid bb2
      clear T0 T1 A0 bb2
      go_wp2_with fail
      refine (H1.out _).mono ?_
      rintro e w3 ⟨rfl, hb3⟩
      have bb3 := HB2.out.trans (hb3.mono HB2.out.size)
      have T3 := HT0.out.below hb3
      have A3 := HA0.out.below hb3
      clear hb3
      go_wp2_with fail
      refine (H2.out _).mono ?_
      rintro e w4 ⟨v, rfl, hp4, hb4⟩
      have bb4 := bb3.trans (hb4.mono bb3.size)
      have T4 := T3.below hb4
      have A4 := A3.below hb4
      have HP4 := Lib.hid hp4
      clear hb4 bb3 T3 A3 hp4 tx0 tx1 tx2 tx3 tx4 tf0 tf1 tf2 tf3 tf4 p0 p1 p3
      by_cases g2 : e2 = 0
      · subst g2
        by_cases g3 : p2 = P
        · subst g3
          have HT4 := Lib.hid T4
          have HA4 := Lib.hid A4
          have HB4 := Lib.hid bb4
          clear T4 A4 bb4
          go_wp2_with fail
          refine (HJ.out _ _ _ HP4.out).mono ?_
          rintro e w5 ⟨rfl, hb5⟩
          have bb5 := HB4.out.trans (hb5.mono HB4.out.size)
          have T5 := HT4.out.below hb5
          have A5 := HA4.out.below hb5
          clear hb5
          have tx0 := T5.cell 0
          have tf0 := T5.frozen 0
          have tx1 := T5.cell 1
          have tf1 := T5.frozen 1
          have tx2 := T5.cell 2
          have tf2 := T5.frozen 2
          have tx3 := T5.cell 3
          have tf3 := T5.frozen 3
          have tx4 := T5.cell 4
          have tf4 := T5.frozen 4
          simp at tx0 tx1 tx2 tx3 tx4
          have T6 : Ce (w5.setCell ⟨w1.heap.size, 4, none⟩ (.string d)) w1.heap.size 61 #[.string n, .int .u16 (t : Int), .int .u16 (c : Int), .int .u32 (l : Int), .string d] := T5.set (.string d) (i := 4)
          have A6 := A5.other n1 (.string d) (i := 4)
          have bb6 := bb5.setCell (p := ⟨w1.heap.size, 4, none⟩) HB1.out.size (.string d)
          have HT6 := Lib.hid T6
          have HA6 := Lib.hid A6
          have HB6 := Lib.hid bb6
          clear T5 A5 bb5 T6 A6 bb6
          go_wp2_with fail
          refine (HV.out _).mono ?_
          rintro e w7 ⟨rfl, hb7⟩
          have bb7 := HB6.out.trans (hb7.mono HB6.out.size)
          have T7 := HT6.out.below hb7
          have A7 := HA6.out.below hb7
          clear hb7 tx0 tx1 tx2 tx3 tx4 tf0 tf1 tf2 tf3 tf4
          have tx0 := T7.cell 0
          have tf0 := T7.frozen 0
          have tx1 := T7.cell 1
          have tf1 := T7.frozen 1
          have tx2 := T7.cell 2
          have tf2 := T7.frozen 2
          have tx3 := T7.cell 3
          have tf3 := T7.frozen 3
          have tx4 := T7.cell 4
          have tf4 := T7.frozen 4
          simp at tx0 tx1 tx2 tx3 tx4
          have ax0 := A7.cell 0
          have af0 := A7.frozen 0
          have ax1 := A7.cell 1
          have af1 := A7.frozen 1
          have ax2 := A7.cell 2
          have af2 := A7.frozen 2
          have ax3 := A7.cell 3
          have af3 := A7.frozen 3
          have ax4 := A7.cell 4
          have af4 := A7.frozen 4
          simp at ax0 ax1 ax2 ax3 ax4
          by_cases g4 : ck = 0
          · subst g4
            have HZ := Lib.hid (set5_ce A7 (.string n) (.int .u16 (t : Int)) (.int .u16 (c : Int)) (.int .u32 (l : Int)) (.string d))
            have HB7 := Lib.hid bb7
            clear bb7 T7 A7
            have hrr : Hid (rs = (⟨n, t, c, l, d⟩, p2, 0)) := Lib.hid (by rw [HR.out]; unfold gtW; rw [if_pos rfl, if_pos rfl, if_pos rfl, if_pos rfl])
            go_wp2
            refine bodyPost_ret (res5tt rfl rfl HZ.out) rfl ?_
            rw [hrr.out]
            exact ⟨rfl, set5_below HB7.out (Nat.le_refl _) _ _ _ _ _⟩
          · have q4 : (ck == 0) = false := by simpa using g4
            have q4' : (ck != 0) = true := by simpa using g4
            have HZ := Lib.hid (set5_ce A7 (.string ⟨#[]⟩) (.int .u16 0) (.int .u16 0) (.int .u32 0) (.string ⟨#[]⟩))
            have HB7 := Lib.hid bb7
            clear bb7 T7 A7
            have hrr : Hid (rs = (zeroR, 0, ck)) := Lib.hid (by rw [HR.out]; unfold gtW; rw [if_pos rfl, if_pos rfl, if_pos rfl, if_neg g4])
            clear g4
            go_wp2
            refine bodyPost_ret (res5tt rfl rfl HZ.out) rfl ?_
            exact gp_zero hrr.out (set5_below HB7.out (Nat.le_refl _) _ _ _ _ _)
        · have q3 : (p2 == P) = false := by simpa using g3
          have q3' : (p2 != P) = true := by simpa using g3
          have ax0 := A4.cell 0
          have af0 := A4.frozen 0
          have ax1 := A4.cell 1
          have af1 := A4.frozen 1
          have ax2 := A4.cell 2
          have af2 := A4.frozen 2
          have ax3 := A4.cell 3
          have af3 := A4.frozen 3
          have ax4 := A4.cell 4
          have af4 := A4.frozen 4
          simp at ax0 ax1 ax2 ax3 ax4
          have HZ := Lib.hid (set5_ce A4 (.string ⟨#[]⟩) (.int .u16 0) (.int .u16 0) (.int .u32 0) (.string ⟨#[]⟩))
          have HB4 := Lib.hid bb4
          clear bb4 T4 A4
          have hrr : Hid (rs = (zeroR, 0, 10)) := Lib.hid (by rw [HR.out]; unfold gtW; rw [if_pos rfl, if_pos rfl, if_neg g3])
          clear g3
          go_wp2
          refine bodyPost_ret (res5tt rfl rfl HZ.out) rfl ?_
          exact gp_zero hrr.out (set5_below HB4.out (Nat.le_refl _) _ _ _ _ _)
      · have q2 : (e2 == 0) = false := by simpa using g2
        have q2' : (e2 != 0) = true := by simpa using g2
        have ax0 := A4.cell 0
        have af0 := A4.frozen 0
        have ax1 := A4.cell 1
        have af1 := A4.frozen 1
        have ax2 := A4.cell 2
        have af2 := A4.frozen 2
        have ax3 := A4.cell 3
        have af3 := A4.frozen 3
        have ax4 := A4.cell 4
        have af4 := A4.frozen 4
        simp at ax0 ax1 ax2 ax3 ax4
        have HZ := Lib.hid (set5_ce A4 (.string ⟨#[]⟩) (.int .u16 0) (.int .u16 0) (.int .u32 0) (.string ⟨#[]⟩))
        have HB4 := Lib.hid bb4
        clear bb4 T4 A4
        have hrr : Hid (rs = (zeroR, 0, e2)) := Lib.hid (by rw [HR.out]; unfold gtW; rw [if_pos rfl, if_neg g2])
        clear g2
        go_wp2
        refine bodyPost_ret (res5tt rfl rfl HZ.out) rfl ?_
        exact gp_zero hrr.out (set5_below HB4.out (Nat.le_refl _) _ _ _ _ _)
    · have q1 : (F == 0) = false := by simpa using g1
      have q1' : (F != 0) = true := by simpa using g1
      have ax0 := A0.cell 0
      have af0 := A0.frozen 0
      have ax1 := A0.cell 1
      have af1 := A0.frozen 1
      have ax2 := A0.cell 2
      have af2 := A0.frozen 2
      have ax3 := A0.cell 3
      have af3 := A0.frozen 3
      have ax4 := A0.cell 4
      have af4 := A0.frozen 4
      simp at ax0 ax1 ax2 ax3 ax4
      have HZ := Lib.hid (set5_ce A0 (.string ⟨#[]⟩) (.int .u16 0) (.int .u16 0) (.int .u32 0) (.string ⟨#[]⟩))
      have HB2 := Lib.hid bb2
      clear bb2 T0 T1 A0
      have hrr : Hid (rs = (zeroR, 0, F)) := Lib.hid (by rw [HR.out]; unfold gtW; rw [if_neg g1])
      clear g1
      go_wp2
      refine bodyPost_ret (res5tt rfl rfl HZ.out) rfl ?_
      exact gp_zero hrr.out (set5_below HB2.out (Nat.le_refl _) _ _ _ _ _)
set_option maxRecDepth 100000 in
set_option maxHeartbeats 12800000 in
theorem get_67 (s : ByteArray) (a : Int) (n d : ByteArray) (t c l : Nat) (q z P F p2 e2 ck : Int) (X : Bs) (ps : List Part) (w : World)
    (C : ∀ w : World, Calls Try.prog 71 #[.string s, .int .i64 a] w fun e w' => e = .returned (.tuple #[.agg #[.string n, .int .u16 (t : Int), .int .u16 (c : Int), .int .u32 (l : Int), .string ⟨#[]⟩], plV s q z, .int .i64 0]) ∧ Below w.heap.size w w')
    (D : ∀ w : World, Calls Try.prog 72 #[.string s, .int .i64 q, .int .i64 z] w fun e w' => e = .returned (.tuple #[str X, .int .i64 P, .int .i64 F]) ∧ Below w.heap.size w w')
    (R1 : ∀ w : World, Calls Try.prog 73 #[plV s q z, .int .u16 (t : Int)] w fun e w' => e = .returned (.func (.func 104) #[plV s q z] #[]) ∧ Below w.heap.size w w')
    (R2 : ∀ w : World, Calls Try.prog 104 #[plV s q z] w fun e w' => ∃ v, e = .returned (.tuple #[v, .int .i64 p2, .int .i64 e2]) ∧ Pts w' w.heap.size v ps ∧ Below w.heap.size w w')
    (J : ∀ (w : World) (base : Nat) (v : Value), Pts w base v ps → Calls Try.prog 74 #[v] w fun e w' => e = .returned (.string d) ∧ Below w.heap.size w w')
    (V : ∀ w : World, Calls Try.prog 55 #[.agg #[.string n, .int .u16 (t : Int), .int .u16 (c : Int), .int .u32 (l : Int), .string d]] w fun e w' => e = .returned (.int .i64 ck) ∧ Below w.heap.size w w') :
    Calls Try.prog 35 #[.string s, .int .i64 a] w (GetPost w (gtW F e2 p2 P ck ⟨n, t, c, l, d⟩)) := by
    have HC := Lib.hid C
    have HD := Lib.hid D
    have H1 := Lib.hid R1
    have H2 := Lib.hid R2
    have HJ := Lib.hid J
    have HV := Lib.hid V
    clear C D R1 R2 J V
    obtain ⟨rs, hrs⟩ : ∃ rs, rs = gtW F e2 p2 P ck ⟨n, t, c, l, d⟩ := ⟨_, rfl⟩
    rw [← hrs]
    have HR := Lib.hid hrs
    clear hrs
    go_enter Try.func35, Try.ntmps35
    go_wp2_with fail
    refine (HC.out _).mono ?_
    rintro e w1 ⟨rfl, hb1⟩
    have bb1 := (one_box w (.cells zc 61)).trans (hb1.mono (one_box w (.cells zc 61)).size)
    have B0 := (Ce.new w 61 zc).below hb1
    clear hb1
    have l0 := B0.lt
    have n1 : w.heap.size ≠ w1.heap.size := by omega
    have n2 : w.heap.size ≠ w1.heap.size + 1 := by omega
    have HT := Lib.hid (two_boxes w1 61 105 #[.string n, .int .u16 (t : Int), .int .u16 (c : Int), .int .u32 (l : Int), .string ⟨#[]⟩] #[.string s, .int .i64 q, .int .i64 z])
    have HB1 := Lib.hid bb1
    have HB0 := Lib.hid B0
    clear bb1 B0
    go_wp2_with fail
    refine (HD.out _).mono ?_
    rintro e w2 ⟨rfl, hb2⟩
    have hT2 := HT.out.2.2
    have T0 := HT.out.1.below hb2
    have T1 := HT.out.2.1.below hb2
    have A0 := (HB0.out.below hT2).below hb2
    have hb12 := hT2.trans (hb2.mono hT2.size)
    have bb2 := HB1.out.trans (hb12.mono HB1.out.size)
    clear hb2 hT2 hb12
    by_cases g1 : F = 0
    · subst g1
      have tx0 := T0.cell 0
      have tf0 := T0.frozen 0
      have tx1 := T0.cell 1
      have tf1 := T0.frozen 1
      have tx2 := T0.cell 2
      have tf2 := T0.frozen 2
      have tx3 := T0.cell 3
      have tf3 := T0.frozen 3
      have tx4 := T0.cell 4
      have tf4 := T0.frozen 4
      simp at tx0 tx1 tx2 tx3 tx4
      have p0 := T1.cell 0
      have p1 := T1.cell 1
      have p3 := T1.cell 2
      simp at p0 p1 p3
      have HT0 := Lib.hid T0
      have HA0 := Lib.hid A0
      have HB2 := Lib.hid bb2
      clear T0 T1 A0 bb2
      go_wp2_with fail
      refine (H1.out _).mono ?_
      rintro e w3 ⟨rfl, hb3⟩
      have bb3 := HB2.out.trans (hb3.mono HB2.out.size)
      have T3 := HT0.out.below hb3
      have A3 := HA0.out.below hb3
      clear hb3
      go_wp2_with fail
      refine (H2.out _).mono ?_
      rintro e w4 ⟨v, rfl, hp4, hb4⟩
      have bb4 := bb3.trans (hb4.mono bb3.size)
      have T4 := T3.below hb4
      have A4 := A3.below hb4
      have HP4 := Lib.hid hp4
      clear hb4 bb3 T3 A3 hp4 tx0 tx1 tx2 tx3 tx4 tf0 tf1 tf2 tf3 tf4 p0 p1 p3
      by_cases g2 : e2 = 0
      · subst g2
        by_cases g3 : p2 = P
        · subst g3
          have HT4 := Lib.hid T4
          have HA4 := Lib.hid A4
          have HB4 := Lib.hid bb4
          clear T4 A4 bb4
          go_wp2_with fail
          refine (HJ.out _ _ _ HP4.out).mono ?_
          rintro e w5 ⟨rfl, hb5⟩
          have bb5 := HB4.out.trans (hb5.mono HB4.out.size)
          have T5 := HT4.out.below hb5
          have A5 := HA4.out.below hb5
          clear hb5
          have tx0 := T5.cell 0
          have tf0 := T5.frozen 0
          have tx1 := T5.cell 1
          have tf1 := T5.frozen 1
          have tx2 := T5.cell 2
          have tf2 := T5.frozen 2
          have tx3 := T5.cell 3
          have tf3 := T5.frozen 3
          have tx4 := T5.cell 4
          have tf4 := T5.frozen 4
          simp at tx0 tx1 tx2 tx3 tx4
          have T6 : Ce (w5.setCell ⟨w1.heap.size, 4, none⟩ (.string d)) w1.heap.size 61 #[.string n, .int .u16 (t : Int), .int .u16 (c : Int), .int .u32 (l : Int), .string d] := T5.set (.string d) (i := 4)
          have A6 := A5.other n1 (.string d) (i := 4)
          have bb6 := bb5.setCell (p := ⟨w1.heap.size, 4, none⟩) HB1.out.size (.string d)
          have HT6 := Lib.hid T6
          have HA6 := Lib.hid A6
          have HB6 := Lib.hid bb6
          clear T5 A5 bb5 T6 A6 bb6
          go_wp2_with fail
          refine (HV.out _).mono ?_
          rintro e w7 ⟨rfl, hb7⟩
          have bb7 := HB6.out.trans (hb7.mono HB6.out.size)
          have T7 := HT6.out.below hb7
          have A7 := HA6.out.below hb7
          clear hb7 tx0 tx1 tx2 tx3 tx4 tf0 tf1 tf2 tf3 tf4
          have tx0 := T7.cell 0
          have tf0 := T7.frozen 0
          have tx1 := T7.cell 1
          have tf1 := T7.frozen 1
          have tx2 := T7.cell 2
          have tf2 := T7.frozen 2
          have tx3 := T7.cell 3
          have tf3 := T7.frozen 3
          have tx4 := T7.cell 4
          have tf4 := T7.frozen 4
          simp at tx0 tx1 tx2 tx3 tx4
          have ax0 := A7.cell 0
          have af0 := A7.frozen 0
          have ax1 := A7.cell 1
          have af1 := A7.frozen 1
          have ax2 := A7.cell 2
          have af2 := A7.frozen 2
          have ax3 := A7.cell 3
          have af3 := A7.frozen 3
          have ax4 := A7.cell 4
          have af4 := A7.frozen 4
          simp at ax0 ax1 ax2 ax3 ax4
          by_cases g4 : ck = 0
          · subst g4
            have HZ := Lib.hid (set5_ce A7 (.string n) (.int .u16 (t : Int)) (.int .u16 (c : Int)) (.int .u32 (l : Int)) (.string d))
            have HB7 := Lib.hid bb7
            clear bb7 T7 A7
            have hrr : Hid (rs = (⟨n, t, c, l, d⟩, p2, 0)) := Lib.hid (by rw [HR.out]; unfold gtW; rw [if_pos rfl, if_pos rfl, if_pos rfl, if_pos rfl])
            go_wp2
            refine bodyPost_ret (res5tt rfl rfl HZ.out) rfl ?_
            rw [hrr.out]
            exact ⟨rfl, set5_below HB7.out (Nat.le_refl _) _ _ _ _ _⟩
          · have q4 : (ck == 0) = false := by simpa using g4
            have q4' : (ck != 0) = true := by simpa using g4
            have HZ := Lib.hid (set5_ce A7 (.string ⟨#[]⟩) (.int .u16 0) (.int .u16 0) (.int .u32 0) (.string ⟨#[]⟩))
            have HB7 := Lib.hid bb7
            clear bb7 T7 A7
            have hrr : Hid (rs = (zeroR, 0, ck)) := Lib.hid (by rw [HR.out]; unfold gtW; rw [if_pos rfl, if_pos rfl, if_pos rfl, if_neg g4])
            clear g4
            go_wp2
            refine bodyPost_ret (res5tt rfl rfl HZ.out) rfl ?_
            exact gp_zero hrr.out (set5_below HB7.out (Nat.le_refl _) _ _ _ _ _)
        · have q3 : (p2 == P) = false := by simpa using g3
          have q3' : (p2 != P) = true := by simpa using g3
          have ax0 := A4.cell 0
          have af0 := A4.frozen 0
          have ax1 := A4.cell 1
          have af1 := A4.frozen 1
          have ax2 := A4.cell 2
          have af2 := A4.frozen 2
          have ax3 := A4.cell 3
          have af3 := A4.frozen 3
          have ax4 := A4.cell 4
          have af4 := A4.frozen 4
          simp at ax0 ax1 ax2 ax3 ax4
          have HZ := Lib.hid (set5_ce A4 (.string ⟨#[]⟩) (.int .u16 0) (.int .u16 0) (.int .u32 0) (.string ⟨#[]⟩))
          have HB4 := Lib.hid bb4
          clear bb4 T4 A4
          have hrr : Hid (rs = (zeroR, 0, 10)) := Lib.hid (by rw [HR.out]; unfold gtW; rw [if_pos rfl, if_pos rfl, if_neg g3])
          clear g3
          go_wp2
          refine bodyPost_ret (res5tt rfl rfl HZ.out) rfl ?_
          exact gp_zero hrr.out (set5_below HB4.out (Nat.le_refl _) _ _ _ _ _)
      · have q2 : (e2 == 0) = false := by simpa using g2
        have q2' : (e2 != 0) = true := by simpa using g2
        have ax0 := A4.cell 0
        have af0 := A4.frozen 0
        have ax1 := A4.cell 1
        have af1 := A4.frozen 1
        have ax2 := A4.cell 2
        have af2 := A4.frozen 2
        have ax3 := A4.cell 3
        have af3 := A4.frozen 3
        have ax4 := A4.cell 4
        have af4 := A4.frozen 4
        simp at ax0 ax1 ax2 ax3 ax4
        have HZ := Lib.hid (set5_ce A4 (.string ⟨#[]⟩) (.int .u16 0) (.int .u16 0) (.int .u32 0) (.string ⟨#[]⟩))
        have HB4 := Lib.hid bb4
        clear bb4 T4 A4
        have hrr : Hid (rs = (zeroR, 0, e2)) := Lib.hid (by rw [HR.out]; unfold gtW; rw [if_pos rfl, if_neg g2])
        clear g2
        go_wp2
        refine bodyPost_ret (res5tt rfl rfl HZ.out) rfl ?_
        exact gp_zero hrr.out (set5_below HB4.out (Nat.le_refl _) _ _ _ _ _)
    · have q1 : (F == 0) = false := by simpa using g1
      have q1' : (F != 0) = true := by simpa using g1
      have ax0 := A0.cell 0
      have af0 := A0.frozen 0
      have ax1 := A0.cell 1
      have af1 := A0.frozen 1
      have ax2 := A0.cell 2
      have af2 := A0.frozen 2
      have ax3 := A0.cell 3
      have af3 := A0.frozen 3
      have ax4 := A0.cell 4
      have af4 := A0.frozen 4
      simp at ax0 ax1 ax2 ax3 ax4
      have HZ := Lib.hid (set5_ce A0 (.string ⟨#[]⟩) (.int .u16 0) (.int .u16 0) (.int .u32 0) (.string ⟨#[]⟩))
      have HB2 := Lib.hid bb2
      clear bb2 T0 T1 A0
      have hrr : Hid (rs = (zeroR, 0, F)) := Lib.hid (by rw [HR.out]; unfold gtW; rw [if_neg g1])
      clear g1
      go_wp2
      refine bodyPost_ret (res5tt rfl rfl HZ.out) rfl ?_
      exact gp_zero hrr.out (set5_below HB2.out (Nat.le_refl _) _ _ _ _ _)
set_option maxRecDepth 100000 in
set_option maxHeartbeats 12800000 in
theorem get_68 (s : ByteArray) (a : Int) (n d : ByteArray) (t c l : Nat) (q z P F p2 e2 ck : Int) (X : Bs) (ps : List Part) (w : World)
    (C : ∀ w : World, Calls Try.prog 71 #[.string s, .int .i64 a] w fun e w' => e = .returned (.tuple #[.agg #[.string n, .int .u16 (t : Int), .int .u16 (c : Int), .int .u32 (l : Int), .string ⟨#[]⟩], plV s q z, .int .i64 0]) ∧ Below w.heap.size w w')
    (D : ∀ w : World, Calls Try.prog 72 #[.string s, .int .i64 q, .int .i64 z] w fun e w' => e = .returned (.tuple #[str X, .int .i64 P, .int .i64 F]) ∧ Below w.heap.size w w')
    (R1 : ∀ w : World, Calls Try.prog 73 #[plV s q z, .int .u16 (t : Int)] w fun e w' => e = .returned (.func (.func 105) #[plV s q z] #[]) ∧ Below w.heap.size w w')
    (R2 : ∀ w : World, Calls Try.prog 105 #[plV s q z] w fun e w' => ∃ v, e = .returned (.tuple #[v, .int .i64 p2, .int .i64 e2]) ∧ Pts w' w.heap.size v ps ∧ Below w.heap.size w w')
    (J : ∀ (w : World) (base : Nat) (v : Value), Pts w base v ps → Calls Try.prog 74 #[v] w fun e w' => e = .returned (.string d) ∧ Below w.heap.size w w')
    (V : ∀ w : World, Calls Try.prog 55 #[.agg #[.string n, .int .u16 (t : Int), .int .u16 (c : Int), .int .u32 (l : Int), .string d]] w fun e w' => e = .returned (.int .i64 ck) ∧ Below w.heap.size w w') :
    Calls Try.prog 35 #[.string s, .int .i64 a] w (GetPost w (gtW F e2 p2 P ck ⟨n, t, c, l, d⟩)) := by
    have HC := Lib.hid C
    have HD := Lib.hid D
    have H1 := Lib.hid R1
    have H2 := Lib.hid R2
    have HJ := Lib.hid J
    have HV := Lib.hid V
    clear C D R1 R2 J V
    obtain ⟨rs, hrs⟩ : ∃ rs, rs = gtW F e2 p2 P ck ⟨n, t, c, l, d⟩ := ⟨_, rfl⟩
    rw [← hrs]
    have HR := Lib.hid hrs
    clear hrs
    go_enter Try.func35, Try.ntmps35
    go_wp2_with fail
    refine (HC.out _).mono ?_
    rintro e w1 ⟨rfl, hb1⟩
    have bb1 := (one_box w (.cells zc 61)).trans (hb1.mono (one_box w (.cells zc 61)).size)
    have B0 := (Ce.new w 61 zc).below hb1
    clear hb1
    have l0 := B0.lt
    have n1 : w.heap.size ≠ w1.heap.size := by omega
    have n2 : w.heap.size ≠ w1.heap.size + 1 := by omega
    have HT := Lib.hid (two_boxes w1 61 105 #[.string n, .int .u16 (t : Int), .int .u16 (c : Int), .int .u32 (l : Int), .string ⟨#[]⟩] #[.string s, .int .i64 q, .int .i64 z])
    have HB1 := Lib.hid bb1
    have HB0 := Lib.hid B0
    clear bb1 B0
    go_wp2_with fail
    refine (HD.out _).mono ?_
    rintro e w2 ⟨rfl, hb2⟩
    have hT2 := HT.out.2.2
    have T0 := HT.out.1.below hb2
    have T1 := HT.out.2.1.below hb2
    have A0 := (HB0.out.below hT2).below hb2
    have hb12 := hT2.trans (hb2.mono hT2.size)
    have bb2 := HB1.out.trans (hb12.mono HB1.out.size)
    clear hb2 hT2 hb12
    by_cases g1 : F = 0
    · subst g1
      have tx0 := T0.cell 0
      have tf0 := T0.frozen 0
      have tx1 := T0.cell 1
      have tf1 := T0.frozen 1
      have tx2 := T0.cell 2
      have tf2 := T0.frozen 2
      have tx3 := T0.cell 3
      have tf3 := T0.frozen 3
      have tx4 := T0.cell 4
      have tf4 := T0.frozen 4
      simp at tx0 tx1 tx2 tx3 tx4
      have p0 := T1.cell 0
      have p1 := T1.cell 1
      have p3 := T1.cell 2
      simp at p0 p1 p3
      have HT0 := Lib.hid T0
      have HA0 := Lib.hid A0
      have HB2 := Lib.hid bb2
      clear T0 T1 A0 bb2
      go_wp2_with fail
      refine (H1.out _).mono ?_
      rintro e w3 ⟨rfl, hb3⟩
      have bb3 := HB2.out.trans (hb3.mono HB2.out.size)
      have T3 := HT0.out.below hb3
      have A3 := HA0.out.below hb3
      clear hb3
      go_wp2_with fail
      refine (H2.out _).mono ?_
      rintro e w4 ⟨v, rfl, hp4, hb4⟩
      have bb4 := bb3.trans (hb4.mono bb3.size)
      have T4 := T3.below hb4
      have A4 := A3.below hb4
      have HP4 := Lib.hid hp4
      clear hb4 bb3 T3 A3 hp4 tx0 tx1 tx2 tx3 tx4 tf0 tf1 tf2 tf3 tf4 p0 p1 p3
      by_cases g2 : e2 = 0
      · subst g2
        by_cases g3 : p2 = P
        · subst g3
          have HT4 := Lib.hid T4
          have HA4 := Lib.hid A4
          have HB4 := Lib.hid bb4
          clear T4 A4 bb4
          go_wp2_with fail
          refine (HJ.out _ _ _ HP4.out).mono ?_
          rintro e w5 ⟨rfl, hb5⟩
          have bb5 := HB4.out.trans (hb5.mono HB4.out.size)
          have T5 := HT4.out.below hb5
          have A5 := HA4.out.below hb5
          clear hb5
          have tx0 := T5.cell 0
          have tf0 := T5.frozen 0
          have tx1 := T5.cell 1
          have tf1 := T5.frozen 1
          have tx2 := T5.cell 2
          have tf2 := T5.frozen 2
          have tx3 := T5.cell 3
          have tf3 := T5.frozen 3
          have tx4 := T5.cell 4
          have tf4 := T5.frozen 4
          simp at tx0 tx1 tx2 tx3 tx4
          have T6 : Ce (w5.setCell ⟨w1.heap.size, 4, none⟩ (.string d)) w1.heap.size 61 #[.string n, .int .u16 (t : Int), .int .u16 (c : Int), .int .u32 (l : Int), .string d] := T5.set (.string d) (i := 4)
          have A6 := A5.other n1 (.string d) (i := 4)
          have bb6 := bb5.setCell (p := ⟨w1.heap.size, 4, none⟩) HB1.out.size (.string d)
          have HT6 := Lib.hid T6
          have HA6 := Lib.hid A6
          have HB6 := Lib.hid bb6
          clear T5 A5 bb5 T6 A6 bb6
          go_wp2_with fail
          refine (HV.out _).mono ?_
          rintro e w7 ⟨rfl, hb7⟩
          have bb7 := HB6.out.trans (hb7.mono HB6.out.size)
          have T7 := HT6.out.below hb7
          have A7 := HA6.out.below hb7
          clear hb7 tx0 tx1 tx2 tx3 tx4 tf0 tf1 tf2 tf3 tf4
          have tx0 := T7.cell 0
          have tf0 := T7.frozen 0
          have tx1 := T7.cell 1
          have tf1 := T7.frozen 1
          have tx2 := T7.cell 2
          have tf2 := T7.frozen 2
          have tx3 := T7.cell 3
          have tf3 := T7.frozen 3
          have tx4 := T7.cell 4
          have tf4 := T7.frozen 4
          simp at tx0 tx1 tx2 tx3 tx4
          have ax0 := A7.cell 0
          have af0 := A7.frozen 0
          have ax1 := A7.cell 1
          have af1 := A7.frozen 1
          have ax2 := A7.cell 2
          have af2 := A7.frozen 2
          have ax3 := A7.cell 3
          have af3 := A7.frozen 3
          have ax4 := A7.cell 4
          have af4 := A7.frozen 4
          simp at ax0 ax1 ax2 ax3 ax4
          by_cases g4 : ck = 0
          · subst g4
            have HZ := Lib.hid (set5_ce A7 (.string n) (.int .u16 (t : Int)) (.int .u16 (c : Int)) (.int .u32 (l : Int)) (.string d))
            have HB7 := Lib.hid bb7
            clear bb7 T7 A7
            have hrr : Hid (rs = (⟨n, t, c, l, d⟩, p2, 0)) := Lib.hid (by rw [HR.out]; unfold gtW; rw [if_pos rfl, if_pos rfl, if_pos rfl, if_pos rfl])
            go_wp2
            refine bodyPost_ret (res5tt rfl rfl HZ.out) rfl ?_
            rw [hrr.out]
            exact ⟨rfl, set5_below HB7.out (Nat.le_refl _) _ _ _ _ _⟩
          · have q4 : (ck == 0) = false := by simpa using g4
            have q4' : (ck != 0) = true := by simpa using g4
            have HZ := Lib.hid (set5_ce A7 (.string ⟨#[]⟩) (.int .u16 0) (.int .u16 0) (.int .u32 0) (.string ⟨#[]⟩))
            have HB7 := Lib.hid bb7
            clear bb7 T7 A7
            have hrr : Hid (rs = (zeroR, 0, ck)) := Lib.hid (by rw [HR.out]; unfold gtW; rw [if_pos rfl, if_pos rfl, if_pos rfl, if_neg g4])
            clear g4
            go_wp2
            refine bodyPost_ret (res5tt rfl rfl HZ.out) rfl ?_
            exact gp_zero hrr.out (set5_below HB7.out (Nat.le_refl _) _ _ _ _ _)
        · have q3 : (p2 == P) = false := by simpa using g3
          have q3' : (p2 != P) = true := by simpa using g3
          have ax0 := A4.cell 0
          have af0 := A4.frozen 0
          have ax1 := A4.cell 1
          have af1 := A4.frozen 1
          have ax2 := A4.cell 2
          have af2 := A4.frozen 2
          have ax3 := A4.cell 3
          have af3 := A4.frozen 3
          have ax4 := A4.cell 4
          have af4 := A4.frozen 4
          simp at ax0 ax1 ax2 ax3 ax4
          have HZ := Lib.hid (set5_ce A4 (.string ⟨#[]⟩) (.int .u16 0) (.int .u16 0) (.int .u32 0) (.string ⟨#[]⟩))
          have HB4 := Lib.hid bb4
          clear bb4 T4 A4
          have hrr : Hid (rs = (zeroR, 0, 10)) := Lib.hid (by rw [HR.out]; unfold gtW; rw [if_pos rfl, if_pos rfl, if_neg g3])
          clear g3
          go_wp2
          refine bodyPost_ret (res5tt rfl rfl HZ.out) rfl ?_
          exact gp_zero hrr.out (set5_below HB4.out (Nat.le_refl _) _ _ _ _ _)
      · have q2 : (e2 == 0) = false := by simpa using g2
        have q2' : (e2 != 0) = true := by simpa using g2
        have ax0 := A4.cell 0
        have af0 := A4.frozen 0
        have ax1 := A4.cell 1
        have af1 := A4.frozen 1
        have ax2 := A4.cell 2
        have af2 := A4.frozen 2
        have ax3 := A4.cell 3
        have af3 := A4.frozen 3
        have ax4 := A4.cell 4
        have af4 := A4.frozen 4
        simp at ax0 ax1 ax2 ax3 ax4
        have HZ := Lib.hid (set5_ce A4 (.string ⟨#[]⟩) (.int .u16 0) (.int .u16 0) (.int .u32 0) (.string ⟨#[]⟩))
        have HB4 := Lib.hid bb4
        clear bb4 T4 A4
        have hrr : Hid (rs = (zeroR, 0, e2)) := Lib.hid (by rw [HR.out]; unfold gtW; rw [if_pos rfl, if_neg g2])
        clear g2
        go_wp2
        refine bodyPost_ret (res5tt rfl rfl HZ.out) rfl ?_
        exact gp_zero hrr.out (set5_below HB4.out (Nat.le_refl _) _ _ _ _ _)
    · have q1 : (F == 0) = false := by simpa using g1
      have q1' : (F != 0) = true := by simpa using g1
      have ax0 := A0.cell 0
      have af0 := A0.frozen 0
      have ax1 := A0.cell 1
      have af1 := A0.frozen 1
      have ax2 := A0.cell 2
      have af2 := A0.frozen 2
      have ax3 := A0.cell 3
      have af3 := A0.frozen 3
      have ax4 := A0.cell 4
      have af4 := A0.frozen 4
      simp at ax0 ax1 ax2 ax3 ax4
      have HZ := Lib.hid (set5_ce A0 (.string ⟨#[]⟩) (.int .u16 0) (.int .u16 0) (.int .u32 0) (.string ⟨#[]⟩))
      have HB2 := Lib.hid bb2
      clear bb2 T0 T1 A0
      have hrr : Hid (rs = (zeroR, 0, F)) := Lib.hid (by rw [HR.out]; unfold gtW; rw [if_neg g1])
      clear g1
      go_wp2
      refine bodyPost_ret (res5tt rfl rfl HZ.out) rfl ?_
      exact gp_zero hrr.out (set5_below HB2.out (Nat.le_refl _) _ _ _ _ _)
set_option maxRecDepth 100000 in
set_option maxHeartbeats 12800000 in
theorem get_69 (s : ByteArray) (a : Int) (n d : ByteArray) (t c l : Nat) (q z P F p2 e2 ck : Int) (X : Bs) (ps : List Part) (w : World)
    (C : ∀ w : World, Calls Try.prog 71 #[.string s, .int .i64 a] w fun e w' => e = .returned (.tuple #[.agg #[.string n, .int .u16 (t : Int), .int .u16 (c : Int), .int .u32 (l : Int), .string ⟨#[]⟩], plV s q z, .int .i64 0]) ∧ Below w.heap.size w w')
    (D : ∀ w : World, Calls Try.prog 72 #[.string s, .int .i64 q, .int .i64 z] w fun e w' => e = .returned (.tuple #[str X, .int .i64 P, .int .i64 F]) ∧ Below w.heap.size w w')
    (R1 : ∀ w : World, Calls Try.prog 73 #[plV s q z, .int .u16 (t : Int)] w fun e w' => e = .returned (.func (.func 106) #[plV s q z] #[]) ∧ Below w.heap.size w w')
    (R2 : ∀ w : World, Calls Try.prog 106 #[plV s q z] w fun e w' => ∃ v, e = .returned (.tuple #[v, .int .i64 p2, .int .i64 e2]) ∧ Pts w' w.heap.size v ps ∧ Below w.heap.size w w')
    (J : ∀ (w : World) (base : Nat) (v : Value), Pts w base v ps → Calls Try.prog 74 #[v] w fun e w' => e = .returned (.string d) ∧ Below w.heap.size w w')
    (V : ∀ w : World, Calls Try.prog 55 #[.agg #[.string n, .int .u16 (t : Int), .int .u16 (c : Int), .int .u32 (l : Int), .string d]] w fun e w' => e = .returned (.int .i64 ck) ∧ Below w.heap.size w w') :
    Calls Try.prog 35 #[.string s, .int .i64 a] w (GetPost w (gtW F e2 p2 P ck ⟨n, t, c, l, d⟩)) := by
    have HC := Lib.hid C
    have HD := Lib.hid D
    have H1 := Lib.hid R1
    have H2 := Lib.hid R2
    have HJ := Lib.hid J
    have HV := Lib.hid V
    clear C D R1 R2 J V
    obtain ⟨rs, hrs⟩ : ∃ rs, rs = gtW F e2 p2 P ck ⟨n, t, c, l, d⟩ := ⟨_, rfl⟩
    rw [← hrs]
    have HR := Lib.hid hrs
    clear hrs
    go_enter Try.func35, Try.ntmps35
    go_wp2_with fail
    refine (HC.out _).mono ?_
    rintro e w1 ⟨rfl, hb1⟩
    have bb1 := (one_box w (.cells zc 61)).trans (hb1.mono (one_box w (.cells zc 61)).size)
    have B0 := (Ce.new w 61 zc).below hb1
    clear hb1
    have l0 := B0.lt
    have n1 : w.heap.size ≠ w1.heap.size := by omega
    have n2 : w.heap.size ≠ w1.heap.size + 1 := by omega
    have HT := Lib.hid (two_boxes w1 61 105 #[.string n, .int .u16 (t : Int), .int .u16 (c : Int), .int .u32 (l : Int), .string ⟨#[]⟩] #[.string s, .int .i64 q, .int .i64 z])
    have HB1 := Lib.hid bb1
    have HB0 := Lib.hid B0
    clear bb1 B0
    go_wp2_with fail
    refine (HD.out _).mono ?_
    rintro e w2 ⟨rfl, hb2⟩
    have hT2 := HT.out.2.2
    have T0 := HT.out.1.below hb2
    have T1 := HT.out.2.1.below hb2
    have A0 := (HB0.out.below hT2).below hb2
    have hb12 := hT2.trans (hb2.mono hT2.size)
    have bb2 := HB1.out.trans (hb12.mono HB1.out.size)
    clear hb2 hT2 hb12
    by_cases g1 : F = 0
    · subst g1
      have tx0 := T0.cell 0
      have tf0 := T0.frozen 0
      have tx1 := T0.cell 1
      have tf1 := T0.frozen 1
      have tx2 := T0.cell 2
      have tf2 := T0.frozen 2
      have tx3 := T0.cell 3
      have tf3 := T0.frozen 3
      have tx4 := T0.cell 4
      have tf4 := T0.frozen 4
      simp at tx0 tx1 tx2 tx3 tx4
      have p0 := T1.cell 0
      have p1 := T1.cell 1
      have p3 := T1.cell 2
      simp at p0 p1 p3
      have HT0 := Lib.hid T0
      have HA0 := Lib.hid A0
      have HB2 := Lib.hid bb2
      clear T0 T1 A0 bb2
      go_wp2_with fail
      refine (H1.out _).mono ?_
      rintro e w3 ⟨rfl, hb3⟩
      have bb3 := HB2.out.trans (hb3.mono HB2.out.size)
      have T3 := HT0.out.below hb3
      have A3 := HA0.out.below hb3
      clear hb3
      go_wp2_with fail
      refine (H2.out _).mono ?_
      rintro e w4 ⟨v, rfl, hp4, hb4⟩
      have bb4 := bb3.trans (hb4.mono bb3.size)
      have T4 := T3.below hb4
      have A4 := A3.below hb4
      have HP4 := Lib.hid hp4
      clear hb4 bb3 T3 A3 hp4 tx0 tx1 tx2 tx3 tx4 tf0 tf1 tf2 tf3 tf4 p0 p1 p3
      by_cases g2 : e2 = 0
      · subst g2
        by_cases g3 : p2 = P
        · subst g3
          have HT4 := Lib.hid T4
          have HA4 := Lib.hid A4
          have HB4 := Lib.hid bb4
          clear T4 A4 bb4
          go_wp2_with fail
          refine (HJ.out _ _ _ HP4.out).mono ?_
          rintro e w5 ⟨rfl, hb5⟩
          have bb5 := HB4.out.trans (hb5.mono HB4.out.size)
          have T5 := HT4.out.below hb5
          have A5 := HA4.out.below hb5
          clear hb5
          have tx0 := T5.cell 0
          have tf0 := T5.frozen 0
          have tx1 := T5.cell 1
          have tf1 := T5.frozen 1
          have tx2 := T5.cell 2
          have tf2 := T5.frozen 2
          have tx3 := T5.cell 3
          have tf3 := T5.frozen 3
          have tx4 := T5.cell 4
          have tf4 := T5.frozen 4
          simp at tx0 tx1 tx2 tx3 tx4
          have T6 : Ce (w5.setCell ⟨w1.heap.size, 4, none⟩ (.string d)) w1.heap.size 61 #[.string n, .int .u16 (t : Int), .int .u16 (c : Int), .int .u32 (l : Int), .string d] := T5.set (.string d) (i := 4)
          have A6 := A5.other n1 (.string d) (i := 4)
          have bb6 := bb5.setCell (p := ⟨w1.heap.size, 4, none⟩) HB1.out.size (.string d)
          have HT6 := Lib.hid T6
          have HA6 := Lib.hid A6
          have HB6 := Lib.hid bb6
          clear T5 A5 bb5 T6 A6 bb6
          go_wp2_with fail
          refine (HV.out _).mono ?_
          rintro e w7 ⟨rfl, hb7⟩
          have bb7 := HB6.out.trans (hb7.mono HB6.out.size)
          have T7 := HT6.out.below hb7
          have A7 := HA6.out.below hb7
          clear hb7 tx0 tx1 tx2 tx3 tx4 tf0 tf1 tf2 tf3 tf4
          have tx0 := T7.cell 0
          have tf0 := T7.frozen 0
          have tx1 := T7.cell 1
          have tf1 := T7.frozen 1
          have tx2 := T7.cell 2
          have tf2 := T7.frozen 2
          have tx3 := T7.cell 3
          have tf3 := T7.frozen 3
          have tx4 := T7.cell 4
          have tf4 := T7.frozen 4
          simp at tx0 tx1 tx2 tx3 tx4
          have ax0 := A7.cell 0
          have af0 := A7.frozen 0
          have ax1 := A7.cell 1
          have af1 := A7.frozen 1
          have ax2 := A7.cell 2
          have af2 := A7.frozen 2
          have ax3 := A7.cell 3
          have af3 := A7.frozen 3
          have ax4 := A7.cell 4
          have af4 := A7.frozen 4
          simp at ax0 ax1 ax2 ax3 ax4
          by_cases g4 : ck = 0
          · subst g4
            have HZ := Lib.hid (set5_ce A7 (.string n) (.int .u16 (t : Int)) (.int .u16 (c : Int)) (.int .u32 (l : Int)) (.string d))
            have HB7 := Lib.hid bb7
            clear bb7 T7 A7
            have hrr : Hid (rs = (⟨n, t, c, l, d⟩, p2, 0)) := Lib.hid (by rw [HR.out]; unfold gtW; rw [if_pos rfl, if_pos rfl, if_pos rfl, if_pos rfl])
            go_wp2
            refine bodyPost_ret (res5tt rfl rfl HZ.out) rfl ?_
            rw [hrr.out]
            exact ⟨rfl, set5_below HB7.out (Nat.le_refl _) _ _ _ _ _⟩
          · have q4 : (ck == 0) = false := by simpa using g4
            have q4' : (ck != 0) = true := by simpa using g4
            have HZ := Lib.hid (set5_ce A7 (.string ⟨#[]⟩) (.int .u16 0) (.int .u16 0) (.int .u32 0) (.string ⟨#[]⟩))
            have HB7 := Lib.hid bb7
            clear bb7 T7 A7
            have hrr : Hid (rs = (zeroR, 0, ck)) := Lib.hid (by rw [HR.out]; unfold gtW; rw [if_pos rfl, if_pos rfl, if_pos rfl, if_neg g4])
            clear g4
            go_wp2
            refine bodyPost_ret (res5tt rfl rfl HZ.out) rfl ?_
            exact gp_zero hrr.out (set5_below HB7.out (Nat.le_refl _) _ _ _ _ _)
        · have q3 : (p2 == P) = false := by simpa using g3
          have q3' : (p2 != P) = true := by simpa using g3
          have ax0 := A4.cell 0
          have af0 := A4.frozen 0
          have ax1 := A4.cell 1
          have af1 := A4.frozen 1
          have ax2 := A4.cell 2
          have af2 := A4.frozen 2
          have ax3 := A4.cell 3
          have af3 := A4.frozen 3
          have ax4 := A4.cell 4
          have af4 := A4.frozen 4
          simp at ax0 ax1 ax2 ax3 ax4
          have HZ := Lib.hid (set5_ce A4 (.string ⟨#[]⟩) (.int .u16 0) (.int .u16 0) (.int .u32 0) (.string ⟨#[]⟩))
          have HB4 := Lib.hid bb4
          clear bb4 T4 A4
          have hrr : Hid (rs = (zeroR, 0, 10)) := Lib.hid (by rw [HR.out]; unfold gtW; rw [if_pos rfl, if_pos rfl, if_neg g3])
          clear g3
          go_wp2
          refine bodyPost_ret (res5tt rfl rfl HZ.out) rfl ?_
          exact gp_zero hrr.out (set5_below HB4.out (Nat.le_refl _) _ _ _ _ _)
      · have q2 : (e2 == 0) = false := by simpa using g2
        have q2' : (e2 != 0) = true := by simpa using g2
        have ax0 := A4.cell 0
        have af0 := A4.frozen 0
        have ax1 := A4.cell 1
        have af1 := A4.frozen 1
        have ax2 := A4.cell 2
        have af2 := A4.frozen 2
        have ax3 := A4.cell 3
        have af3 := A4.frozen 3
        have ax4 := A4.cell 4
        have af4 := A4.frozen 4
        simp at ax0 ax1 ax2 ax3 ax4
        have HZ := Lib.hid (set5_ce A4 (.string ⟨#[]⟩) (.int .u16 0) (.int .u16 0) (.int .u32 0) (.string ⟨#[]⟩))
        have HB4 := Lib.hid bb4
        clear bb4 T4 A4
        have hrr : Hid (rs = (zeroR, 0, e2)) := Lib.hid (by rw [HR.out]; unfold gtW; rw [if_pos rfl, if_neg g2])
        clear g2
        go_wp2
        refine bodyPost_ret (res5tt rfl rfl HZ.out) rfl ?_
        exact gp_zero hrr.out (set5_below HB4.out (Nat.le_refl _) _ _ _ _ _)
    · have q1 : (F == 0) = false := by simpa using g1
      have q1' : (F != 0) = true := by simpa using g1
      have ax0 := A0.cell 0
      have af0 := A0.frozen 0
      have ax1 := A0.cell 1
      have af1 := A0.frozen 1
      have ax2 := A0.cell 2
      have af2 := A0.frozen 2
      have ax3 := A0.cell 3
      have af3 := A0.frozen 3
      have ax4 := A0.cell 4
      have af4 := A0.frozen 4
      simp at ax0 ax1 ax2 ax3 ax4
      have HZ := Lib.hid (set5_ce A0 (.string ⟨#[]⟩) (.int .u16 0) (.int .u16 0) (.int .u32 0) (.string ⟨#[]⟩))
      have HB2 := Lib.hid bb2
      clear bb2 T0 T1 A0
      have hrr : Hid (rs = (zeroR, 0, F)) := Lib.hid (by rw [HR.out]; unfold gtW; rw [if_neg g1])
      clear g1
      go_wp2
      refine bodyPost_ret (res5tt rfl rfl HZ.out) rfl ?_
      exact gp_zero hrr.out (set5_below HB2.out (Nat.le_refl _) _ _ _ _ _)
end Go.Proofs.Ytljfkjbagebncaa
