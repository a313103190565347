/-
  What the document's Get answers where numbers stand there: the types with names; no older memory is changed.
-/
import Derived.Test.YtflpceaaelampaaRefGet2
namespace Go.Proofs.Ytflpceaaelampaa
open Go.RowKit
/-- What the call knows behind the numbers: the result's block, the record's. -/
structure RgJ (w : World) (g : Nat) (cs : Array Value) (wr : World) : Prop where
  a : Ce wr w.heap.size 25 zc
  r : Ce wr g 25 cs
  b : Below w.heap.size w wr
  h : w.heap.size < g
theorem RgJ.under {w wr w' : World} {g : Nat} {cs : Array Value} (h : RgJ w g cs wr) (hb : Below wr.heap.size wr w') : RgJ w g cs w' :=
  ⟨h.a.below hb, h.r.below hb, h.b.trans (hb.mono h.b.size), h.h⟩
theorem RgI.recd {w wr : World} {g : Nat} {cs : Array Value} (h : RgI w g cs wr) (ds : Array Value) : RgJ w wr.heap.size ds (wr.alloc (.cells ds 25)) :=
  ⟨h.a.below (one_box _ _), Ce.new _ _ _, (h.under (one_box _ _)).b, h.a.lt⟩
theorem RgJ.set {w wr : World} {g i : Nat} {cs cs' : Array Value} {v : Value} (h : RgJ w g cs wr) (e : cs.setIfInBounds i v = cs') : RgJ w g cs' (wr.setCell ⟨g, i, none⟩ v) :=
  ⟨h.a.other (by have := h.h; omega) v, e ▸ h.r.set v, h.b.setCell (p := ⟨g, i, none⟩) (by show w.heap.size ≤ g; have := h.h; omega) v, h.h⟩
set_option maxRecDepth 100000 in
set_option maxHeartbeats 25600000 in
theorem rget_named (s : ByteArray) (a : Int) (n : ByteArray) (p t c l z : Nat) (ht : t < 65536) (hc : c < 65536) (hl : l < 4294967296) (P F ck : Int)
    (C : ∀ w : World, Calls Try.prog 44 #[.string s, .int .i64 a] w fun e w' => e = .returned (.tuple #[.string n, .int .i64 (p : Int), .int .i64 0]) ∧ Below w.heap.size w w')
    (N0 : ∀ w : World, Calls Try.prog 45 #[.string s, .int .i64 (p : Int), .int .i64 2] w fun e w' => e = .returned (.tuple #[.int .i64 (t : Int), .int .i64 ((p : Int) + 2), .int .i64 0]) ∧ w = w')
    (N1 : ∀ w : World, Calls Try.prog 45 #[.string s, .int .i64 ((p : Int) + 2), .int .i64 2] w fun e w' => e = .returned (.tuple #[.int .i64 (c : Int), .int .i64 ((p : Int) + 4), .int .i64 0]) ∧ w = w')
    (N2 : ∀ w : World, Calls Try.prog 45 #[.string s, .int .i64 ((p : Int) + 4), .int .i64 4] w fun e w' => e = .returned (.tuple #[.int .i64 (l : Int), .int .i64 ((p : Int) + 8), .int .i64 0]) ∧ w = w')
    (N3 : ∀ w : World, Calls Try.prog 45 #[.string s, .int .i64 ((p : Int) + 8), .int .i64 2] w fun e w' => e = .returned (.tuple #[.int .i64 (z : Int), .int .i64 ((p : Int) + 10), .int .i64 0]) ∧ w = w')
    (X : ByteArray) (A N B : Nat) (hA : A ≤ 2) (hN : N ≤ 2) (hB : B ≤ 20) (hs : s.size ≤ 1000000) (jd : Bs) (jn je : Int) (hp : p + 10 ≤ s.data.toList.length)
    (hJ : jr [] (rdP s.data.toList ((A : Int) :: (List.replicate N (-1) ++ [(B : Int)])) ((p : Int) + 10)) = (jd, jn, je)) (w : World)
    (E : ∀ w : World, Calls Try.prog 46 #[.string s, .int .i64 ((p : Int) + 10), .int .i64 (z : Int)] w fun e w' => e = .returned (.tuple #[.string X, .int .i64 P, .int .i64 F]) ∧ w = w')
    (H : ∀ w : World, Calls Try.prog 47 #[.int .u16 (t : Int)] w fun e w' => e = .returned (.tuple #[.int .i64 (A : Int), .int .i64 (N : Int), .int .i64 (B : Int), .bool true]) ∧ w = w')
    (V : ∀ w : World, Calls Try.prog 17 #[.agg #[.string n, .int .u16 (t : Int), .int .u16 (c : Int), .int .u32 (l : Int), str jd]] w fun e w' => e = .returned (.int .i64 ck) ∧ Below w.heap.size w w') :
    Calls Try.prog 21 #[.string s, .int .i64 a] w (GetPost w (gtW F je jn P ck ⟨n, t, c, l, ⟨jd.toArray⟩⟩)) := by
  have HE := Lib.hid E
  have HH := Lib.hid H
  have HV := Lib.hid V
  clear E H V
  have hs' : s.size ≤ 140737488351232 := by omega
  have hsl := size_list s
  have hNi : (N : Int) ≤ 2 := by omega
  have hAi : (A : Int) ≤ 2 := by omega
  have hBi : (B : Int) ≤ 20 := by omega
  have RA := fun w => rraw_any s hs' ((p : Int) + 10) (A : Int) (by omega) (by omega) w
  have e1 : rd1 s.data.toList ((p : Int) + 10) (A : Int) = (piS s.data.toList ((p : Int) + 10) (A : Int), piP s.data.toList ((p : Int) + 10) (A : Int), piR s.data.toList ((p : Int) + 10) (A : Int)) := if_neg (by omega)
  unfold pcV at RA
  have hAB : Hid (piR s.data.toList ((p : Int) + 10) (A : Int) ≠ 0 → je = piR s.data.toList ((p : Int) + 10) (A : Int)) := Lib.hid fun h => by
    rw [jr_bad (by rw [e1]; exact h), e1] at hJ
    exact (congrArg (fun x => x.2.2) hJ).symm
  have hAG : Hid (piR s.data.toList ((p : Int) + 10) (A : Int) = 0 → jr (piS s.data.toList ((p : Int) + 10) (A : Int)) (rdP s.data.toList (List.replicate N (-1) ++ [(B : Int)]) (piP s.data.toList ((p : Int) + 10) (A : Int))) = (jd, jn, je)) := Lib.hid fun h => by
    rw [h] at e1
    rw [jr_go e1, List.nil_append] at hJ
    exact hJ
  have hxl := piS_le s.data.toList ((p : Int) + 10) (A : Int)
  have hbb := piP_bd s.data.toList ((p : Int) + 10) (A : Int)
  clear hJ e1
  generalize piS s.data.toList ((p : Int) + 10) (A : Int) = xA at RA hAG hxl
  generalize piP s.data.toList ((p : Int) + 10) (A : Int) = bA at RA hAG hbb
  generalize piR s.data.toList ((p : Int) + 10) (A : Int) = eA at RA hAG hAB
  have HRA := Lib.hid RA
  have HSL := Lib.hid hsl
  rw [← hsl] at hxl hbb
  clear RA hsl hp
  obtain ⟨rs, hrs⟩ : ∃ rs, rs = gtW F je jn P ck ⟨n, t, c, l, ⟨jd.toArray⟩⟩ := ⟨_, rfl⟩
  rw [← hrs]
  have HR := Lib.hid hrs
  clear hrs
  have D0 := Lib.hid N0
  have D1 := Lib.hid N1
  have D2 := Lib.hid N2
  have D3 := Lib.hid N3
  have HC := Lib.hid C
  have hti : (t : Int) < 65536 := by omega
  have hci : (c : Int) < 65536 := by omega
  have hlli : (l : Int) < 4294967296 := by omega
  clear N0 N1 N2 N3 C
  go_enter Try.func21, Try.ntmps21
  go_wp2_with fail
  refine (HC.out _).mono ?_
  rintro e w1 ⟨rfl, hb1⟩
  obtain ⟨hI0, hg0⟩ := RgI.start hb1 #[.int .i64 0, .int .i64 0, .int .i64 0, .int .i64 0]
  have HI0 := Lib.hid hI0
  clear hb1 hI0
  go_wp2
  go_loopw [8, 11] (fun x i wr => ∃ k : Nat, k ≤ 4 ∧ i = .int .i64 k ∧ x = .int .i64 ((p + ofs k : Nat) : Int) ∧ RgI w w1.heap.size (ar t c l z k) wr) (fun _ i _ => 4 - (intOf i).toNat)
  case atStart => exact ⟨0, by omega, rfl, rfl, HI0.out⟩
  case round =>
    clear HI0
    obtain ⟨k, hk, rfl, rfl, hI⟩ := hrel
    rcases (by omega : k = 0 ∨ k = 1 ∨ k = 2 ∨ k = 3 ∨ k = 4) with rfl | rfl | rfl | rfl | rfl
    · rw [show ofs 0 = 0 from rfl, show ((p + 0 : Nat) : Int) = (p : Int) by omega, show (((0 : Nat) : Int)) = 0 from rfl]
      obtain ⟨cx0, cx1, cx2, cx3⟩ := c4 (show Ce wr w1.heap.size 87 #[.int .i64 0, .int .i64 0, .int .i64 0, .int .i64 0] from hI.r)
      have cf := hI.r.frozen 0
      have HI := Lib.hid hI
      clear hI
      go_wp2_with fail
      refine (D0.out wr).mono ?_
      rintro e w' ⟨rfl, rfl⟩
      go_wp2
      go_roundw
      case rel => exact ⟨1, by omega, rfl, by show _ = Value.int .i64 ((p + 2 : Nat) : Int); congr 1 <;> omega, HI.out.set hg0 rfl⟩
      case measure => simp [intOf]
    · rw [show ofs 1 = 2 from rfl, show ((p + 2 : Nat) : Int) = (p : Int) + 2 by omega, show (((1 : Nat) : Int)) = 1 from rfl]
      obtain ⟨cx0, cx1, cx2, cx3⟩ := c4 (show Ce wr w1.heap.size 87 #[.int .i64 (t : Int), .int .i64 0, .int .i64 0, .int .i64 0] from hI.r)
      have cf := hI.r.frozen 1
      have HI := Lib.hid hI
      clear hI
      go_wp2_with fail
      refine (D1.out wr).mono ?_
      rintro e w' ⟨rfl, rfl⟩
      go_wp2
      go_roundw
      case rel => exact ⟨2, by omega, rfl, by show _ = Value.int .i64 ((p + 4 : Nat) : Int); congr 1 <;> omega, HI.out.set hg0 rfl⟩
      case measure => simp [intOf]
    · rw [show ofs 2 = 4 from rfl, show ((p + 4 : Nat) : Int) = (p : Int) + 4 by omega, show (((2 : Nat) : Int)) = 2 from rfl]
      obtain ⟨cx0, cx1, cx2, cx3⟩ := c4 (show Ce wr w1.heap.size 87 #[.int .i64 (t : Int), .int .i64 (c : Int), .int .i64 0, .int .i64 0] from hI.r)
      have cf := hI.r.frozen 2
      have HI := Lib.hid hI
      clear hI
      go_wp2_with fail
      refine (D2.out wr).mono ?_
      rintro e w' ⟨rfl, rfl⟩
      go_wp2
      go_roundw
      case rel => exact ⟨3, by omega, rfl, by show _ = Value.int .i64 ((p + 8 : Nat) : Int); congr 1 <;> omega, HI.out.set hg0 rfl⟩
      case measure => simp [intOf]
    · rw [show ofs 3 = 8 from rfl, show ((p + 8 : Nat) : Int) = (p : Int) + 8 by omega, show (((3 : Nat) : Int)) = 3 from rfl]
      obtain ⟨cx0, cx1, cx2, cx3⟩ := c4 (show Ce wr w1.heap.size 87 #[.int .i64 (t : Int), .int .i64 (c : Int), .int .i64 (l : Int), .int .i64 0] from hI.r)
      have cf := hI.r.frozen 3
      have HI := Lib.hid hI
      clear hI
      go_wp2_with fail
      refine (D3.out wr).mono ?_
      rintro e w' ⟨rfl, rfl⟩
      go_wp2
      go_roundw
      case rel => exact ⟨4, by omega, rfl, by show _ = Value.int .i64 ((p + 10 : Nat) : Int); congr 1 <;> omega, HI.out.set hg0 rfl⟩
      case measure => simp [intOf]
    · rw [show ofs 4 = 10 from rfl, show ((p + 10 : Nat) : Int) = (p : Int) + 10 by omega, show (((4 : Nat) : Int)) = 4 from rfl]
      have hR : Ce wr w1.heap.size 87 #[.int .i64 (t : Int), .int .i64 (c : Int), .int .i64 (l : Int), .int .i64 (z : Int)] := hI.r
      obtain ⟨cx0, cx1, cx2, cx3⟩ := c4 hR
      have HI := Lib.hid hI
      clear hR
      go_wp2_with fail
      refine (HE.out _).mono ?_
      rintro e w' ⟨rfl, rfl⟩
      by_cases g1 : F = 0
      · subst g1
        clear hI
        have HU := Lib.hid (HI.out.recd #[.string n, .int .u16 (t : Int), .int .u16 (c : Int), .int .u32 (l : Int), .string X])
        have ux1 := HU.out.r.cell 1
        simp at ux1
        go_wp2_with fail
        refine (HH.out _).mono ?_
        rintro e w' ⟨rfl, rfl⟩
        clear cx0 cx1 cx2 cx3
        go_wp2_with fail
        refine (HRA.out _).mono ?_
        rintro e w' ⟨rfl, rfl⟩
        by_cases g2 : eA = 0
        · subst g2
          have hJ0 := Lib.hid (hAG.out rfl)
          have hg2 : Hid (w.heap.size < wr.heap.size) := Lib.hid HU.out.h
          obtain ⟨wo, hwo⟩ : ∃ wo, wo = wr := ⟨_, rfl⟩
          subst hwo
          have HU2 := Lib.hid HU.out
          clear ux1
          go_wp2
          go_loopw [24, 25, 27] (fun xv bv i wq => ∃ (k : Nat) (x : Bs) (b : Int), k ≤ N ∧ i = .int .i64 k ∧ xv = str x ∧ bv = .int .i64 b ∧ (0 ≤ b ∧ b ≤ (s.size : Int)) ∧ x.length ≤ 1000000 + 255 * k ∧ jr x (rdP s.data.toList (List.replicate (N - k) (-1) ++ [(B : Int)]) b) = (jd, jn, je) ∧ RgJ w wo.heap.size #[.string n, .int .u16 (t : Int), .int .u16 (c : Int), .int .u32 (l : Int), .string X] wq) (fun _ _ i _ => N - (intOf i).toNat)
          case atStart => exact ⟨0, xA, bA, by omega, rfl, rfl, rfl, hbb, by omega, hJ0.out, HU2.out⟩
          case round =>
            clear HU HU2 HI
            obtain ⟨k, x, b, hk, rfl, rfl, rfl, hb, hx, hj, hI⟩ := hrel
            by_cases hlt : k < N
            · have q3 : (k : Int) < (N : Int) := by omega
              rw [show N - k = (N - (k + 1)) + 1 by omega, List.replicate_succ, List.cons_append] at hj
              have CN := fun w => rname_any s hs' b (by omega) w
              have e2 : rd1 s.data.toList b (-1) = ((nmI s.data.toList b).1, ((nmI s.data.toList b).2.1 : Int), ((nmI s.data.toList b).2.2 : Int)) := if_pos rfl
              unfold nmV at CN
              have hml := nmI_len s.data.toList b
              have hmp := nmI_place_any s.data.toList b
              rw [← HSL.out] at hmp
              have hNB : Hid (((nmI s.data.toList b).2.2 : Int) ≠ 0 → je = ((nmI s.data.toList b).2.2 : Int)) := Lib.hid fun h => by
                rw [jr_bad (by rw [e2]; exact h), e2] at hj
                exact (congrArg (fun x => x.2.2) hj).symm
              have hNG : Hid (((nmI s.data.toList b).2.2 : Int) = 0 → jr (x ++ (nmI s.data.toList b).1) (rdP s.data.toList (List.replicate (N - (k + 1)) (-1) ++ [(B : Int)]) ((nmI s.data.toList b).2.1 : Int)) = (jd, jn, je)) := Lib.hid fun h => by
                rw [h] at e2
                rw [jr_go e2] at hj
                exact hj
              clear hj e2
              generalize (nmI s.data.toList b).1 = m at CN hNG hml
              generalize (nmI s.data.toList b).2.1 = nx at CN hNG hmp
              generalize (nmI s.data.toList b).2.2 = en at CN hNG hNB
              have HCN := Lib.hid CN
              have HIJ := Lib.hid hI
              clear CN hI
              by_cases g3 : en = 0
              · subst g3
                have HNG := Lib.hid (hNG.out rfl)
                have hadd : ∀ w, (Op.stringOp .add ⟨x.toArray⟩ ⟨m.toArray⟩).run Try.prog w = .ok (str (x ++ m)) w := fun w => by
                  rw [run_string_add_sum w _ _ (by show x.length + m.length ≤ _; omega), cat]
                clear hNG hNB
                go_wp2_with fail
                refine (HCN.out _).mono ?_
                rintro e w9 ⟨rfl, hb9⟩
                have HI9 := Lib.hid (HIJ.out.under hb9)
                clear hb9
                go_wp2
                go_roundw
                case rel => exact ⟨k + 1, x ++ m, nx, by omega, by go_num, rfl, rfl, by omega, by rw [List.length_append]; omega, HNG.out, HI9.out⟩
                case measure => simp [intOf]; omega
              · have q4 : ((en : Int) == 0) = false := by simp; omega
                have q4' : ((en : Int) != 0) = true := by simp; omega
                have hje : je = (en : Int) := hNB.out (by omega)
                have hrr : Hid (rs = (zeroR, 0, (en : Int))) := Lib.hid (by rw [HR.out, hje]; unfold gtW; rw [if_pos rfl, if_neg (by omega)])
                clear g3 hNG hNB hje
                go_wp2_with fail
                refine (HCN.out _).mono ?_
                rintro e w9 ⟨rfl, hb9⟩
                have hI9 := HIJ.out.under hb9
                clear hb9
                obtain ⟨ax0, ax1, ax2, ax3, ax4⟩ := c5 hI9.a
                have af0 := hI9.a.frozen 0
                have af1 := hI9.a.frozen 1
                have af2 := hI9.a.frozen 2
                have af3 := hI9.a.frozen 3
                have af4 := hI9.a.frozen 4
                have HZ := Lib.hid (set5_ce hI9.a (.string ⟨#[]⟩) (.int .u16 0) (.int .u16 0) (.int .u32 0) (.string ⟨#[]⟩))
                have HB := Lib.hid hI9.b
                clear hI9
                go_wp2
                refine bodyPost_ret (res5tt rfl rfl HZ.out) rfl ?_
                exact gp_zero hrr.out (set5_below HB.out (Nat.le_refl _) _ _ _ _ _)
            · have q3 : decide ((k : Int) < (N : Int)) = false := by simp; omega
              rw [show N - k = 0 by omega, List.replicate_zero, List.nil_append] at hj
              have CB := fun w => rraw_any s hs' b (B : Int) (by omega) (by omega) w
              have e2 : rd1 s.data.toList b (B : Int) = (piS s.data.toList b (B : Int), piP s.data.toList b (B : Int), piR s.data.toList b (B : Int)) := if_neg (by omega)
              unfold pcV at CB
              have hyl := piS_le s.data.toList b (B : Int)
              rw [← HSL.out] at hyl
              have hNB : Hid (piR s.data.toList b (B : Int) ≠ 0 → je = piR s.data.toList b (B : Int)) := Lib.hid fun h => by
                rw [jr_bad (by rw [e2]; exact h), e2] at hj
                exact (congrArg (fun x => x.2.2) hj).symm
              have hNG : Hid (piR s.data.toList b (B : Int) = 0 → (x ++ piS s.data.toList b (B : Int), piP s.data.toList b (B : Int), (0 : Int)) = (jd, jn, je)) := Lib.hid fun h => by
                rw [h] at e2
                rw [jr_go e2, jr_end] at hj
                exact hj
              clear hj e2
              generalize piS s.data.toList b (B : Int) = y at CB hNG hyl
              generalize piP s.data.toList b (B : Int) = nx at CB hNG
              generalize piR s.data.toList b (B : Int) = en at CB hNG hNB
              have HCB := Lib.hid CB
              have HIJ := Lib.hid hI
              clear CB hI
              by_cases g3 : en = 0
              · subst g3
                have hjj := hNG.out rfl
                have hjd : x ++ y = jd := congrArg (fun x => x.1) hjj
                have hjn : nx = jn := congrArg (fun x => x.2.1) hjj
                have hje : (0 : Int) = je := congrArg (fun x => x.2.2) hjj
                subst hjn hje
                clear hNG hNB hjj
                by_cases g4 : nx = P
                · subst g4
                  go_wp2_with fail
                  refine (HCB.out _).mono ?_
                  rintro e w' ⟨rfl, rfl⟩
                  have hadd : ∀ w, (Op.stringOp .add ⟨x.toArray⟩ ⟨y.toArray⟩).run Try.prog w = .ok (str jd) w := fun w => by
                    rw [run_string_add_sum w _ _ (by show x.length + y.length ≤ _; omega), cat, hjd]
                  have rx4 := HIJ.out.r.cell 4
                  have rf4 := HIJ.out.r.frozen 4
                  obtain ⟨rx0, rx1, rx2, rx3, _⟩ := c5 HIJ.out.r
                  simp at rx4
                  have HI9 := Lib.hid (HIJ.out.set (i := 4) (v := str jd) (cs' := #[.string n, .int .u16 (t : Int), .int .u16 (c : Int), .int .u32 (l : Int), str jd]) rfl)
                  clear hx hyl hxl hb hbb hlt hk hjd ht hc hl
                  go_wp2_with fail
                  refine (HV.out _).mono ?_
                  rintro e w8 ⟨rfl, hb8⟩
                  have hI8 := HI9.out.under hb8
                  obtain ⟨tx0, tx1, tx2, tx3, tx4⟩ := c5 hI8.r
                  clear hb8 rx0 rx1 rx2 rx3 rx4 rf4
                  by_cases g5 : ck = 0
                  · subst g5
                    obtain ⟨ax0, ax1, ax2, ax3, ax4⟩ := c5 hI8.a
                    have af0 := hI8.a.frozen 0
                    have af1 := hI8.a.frozen 1
                    have af2 := hI8.a.frozen 2
                    have af3 := hI8.a.frozen 3
                    have af4 := hI8.a.frozen 4
                    have HZ := Lib.hid (set5_ce hI8.a (.string n) (.int .u16 (t : Int)) (.int .u16 (c : Int)) (.int .u32 (l : Int)) (str jd))
                    have HB := Lib.hid hI8.b
                    have hrr : Hid (rs = (⟨n, t, c, l, ⟨jd.toArray⟩⟩, nx, 0)) := Lib.hid (by rw [HR.out]; unfold gtW; rw [if_pos rfl, if_pos rfl, if_pos rfl, if_pos rfl])
                    clear hI8
                    go_wp2
                    refine bodyPost_ret (res5tt rfl rfl HZ.out) rfl ?_
                    rw [hrr.out]
                    exact ⟨rfl, set5_below HB.out (Nat.le_refl _) _ _ _ _ _⟩
                  · have q4 : (ck == 0) = false := by simpa using g5
                    have q4' : (ck != 0) = true := by simpa using g5
                    have hrr : Hid (rs = (zeroR, 0, ck)) := Lib.hid (by rw [HR.out]; unfold gtW; rw [if_pos rfl, if_pos rfl, if_pos rfl, if_neg g5])
                    clear g5
                    obtain ⟨ax0, ax1, ax2, ax3, ax4⟩ := c5 hI8.a
                    have af0 := hI8.a.frozen 0
                    have af1 := hI8.a.frozen 1
                    have af2 := hI8.a.frozen 2
                    have af3 := hI8.a.frozen 3
                    have af4 := hI8.a.frozen 4
                    have HZ := Lib.hid (set5_ce hI8.a (.string ⟨#[]⟩) (.int .u16 0) (.int .u16 0) (.int .u32 0) (.string ⟨#[]⟩))
                    have HB := Lib.hid hI8.b
                    clear hI8
                    go_wp2
                    refine bodyPost_ret (res5tt rfl rfl HZ.out) rfl ?_
                    exact gp_zero hrr.out (set5_below HB.out (Nat.le_refl _) _ _ _ _ _)
                · have q4 : (nx == P) = false := by simpa using g4
                  have q4' : (nx != P) = true := by simpa using g4
                  have hrr : Hid (rs = (zeroR, 0, 10)) := Lib.hid (by rw [HR.out]; unfold gtW; rw [if_pos rfl, if_pos rfl, if_neg g4])
                  have hI8 := HIJ.out
                  clear g4
                  go_wp2_with fail
                  refine (HCB.out _).mono ?_
                  rintro e w' ⟨rfl, rfl⟩
                  obtain ⟨ax0, ax1, ax2, ax3, ax4⟩ := c5 hI8.a
                  have af0 := hI8.a.frozen 0
                  have af1 := hI8.a.frozen 1
                  have af2 := hI8.a.frozen 2
                  have af3 := hI8.a.frozen 3
                  have af4 := hI8.a.frozen 4
                  have HZ := Lib.hid (set5_ce hI8.a (.string ⟨#[]⟩) (.int .u16 0) (.int .u16 0) (.int .u32 0) (.string ⟨#[]⟩))
                  have HB := Lib.hid hI8.b
                  clear hI8
                  go_wp2
                  refine bodyPost_ret (res5tt rfl rfl HZ.out) rfl ?_
                  exact gp_zero hrr.out (set5_below HB.out (Nat.le_refl _) _ _ _ _ _)
              · have q4 : (en == 0) = false := by simpa using g3
                have q4' : (en != 0) = true := by simpa using g3
                have hje : je = en := hNB.out g3
                have hrr : Hid (rs = (zeroR, 0, en)) := Lib.hid (by rw [HR.out, hje]; unfold gtW; rw [if_pos rfl, if_neg g3])
                have hI8 := HIJ.out
                clear g3 hNG hNB hje
                go_wp2_with fail
                refine (HCB.out _).mono ?_
                rintro e w' ⟨rfl, rfl⟩
                obtain ⟨ax0, ax1, ax2, ax3, ax4⟩ := c5 hI8.a
                have af0 := hI8.a.frozen 0
                have af1 := hI8.a.frozen 1
                have af2 := hI8.a.frozen 2
                have af3 := hI8.a.frozen 3
                have af4 := hI8.a.frozen 4
                have HZ := Lib.hid (set5_ce hI8.a (.string ⟨#[]⟩) (.int .u16 0) (.int .u16 0) (.int .u32 0) (.string ⟨#[]⟩))
                have HB := Lib.hid hI8.b
                clear hI8
                go_wp2
                refine bodyPost_ret (res5tt rfl rfl HZ.out) rfl ?_
                exact gp_zero hrr.out (set5_below HB.out (Nat.le_refl _) _ _ _ _ _)
        · have q4 : (eA == 0) = false := by simpa using g2
          have q4' : (eA != 0) = true := by simpa using g2
          have hje : je = eA := hAB.out g2
          have hrr : Hid (rs = (zeroR, 0, eA)) := Lib.hid (by rw [HR.out, hje]; unfold gtW; rw [if_pos rfl, if_neg g2])
          have hI8 := HU.out
          clear g2 hje hAG hAB
          obtain ⟨ax0, ax1, ax2, ax3, ax4⟩ := c5 hI8.a
          have af0 := hI8.a.frozen 0
          have af1 := hI8.a.frozen 1
          have af2 := hI8.a.frozen 2
          have af3 := hI8.a.frozen 3
          have af4 := hI8.a.frozen 4
          have HZ := Lib.hid (set5_ce hI8.a (.string ⟨#[]⟩) (.int .u16 0) (.int .u16 0) (.int .u32 0) (.string ⟨#[]⟩))
          have HB := Lib.hid hI8.b
          clear hI8
          go_wp2
          refine bodyPost_ret (res5tt rfl rfl HZ.out) rfl ?_
          exact gp_zero hrr.out (set5_below HB.out (Nat.le_refl _) _ _ _ _ _)
      · have q1 : (F == 0) = false := by simpa using g1
        have q1' : (F != 0) = true := by simpa using g1
        have hrr : Hid (rs = (zeroR, 0, F)) := Lib.hid (by rw [HR.out]; unfold gtW; rw [if_neg g1])
        clear g1
        obtain ⟨ax0, ax1, ax2, ax3, ax4⟩ := c5 hI.a
        have af0 := hI.a.frozen 0
        have af1 := hI.a.frozen 1
        have af2 := hI.a.frozen 2
        have af3 := hI.a.frozen 3
        have af4 := hI.a.frozen 4
        have HZ := Lib.hid (set5_ce hI.a (.string ⟨#[]⟩) (.int .u16 0) (.int .u16 0) (.int .u32 0) (.string ⟨#[]⟩))
        have HB := Lib.hid hI.b
        clear hI
        go_wp2
        refine bodyPost_ret (res5tt rfl rfl HZ.out) rfl ?_
        exact gp_zero hrr.out (set5_below HB.out (Nat.le_refl _) _ _ _ _ _)

end Go.Proofs.Ytflpceaaelampaa
