/-
  What the document's Get answers, for every text and place, is what the program's does; and the walk of the law RecordReads. No older memory is changed.
-/
import Derived.Test.YtflpceaaelampaaRefGet3
import Derived.Test.YtflpceaaelampaaAwakeRec
import Derived.Laws.StructEq
namespace Go.Proofs.Ytflpceaaelampaa
open Go.RowKit
theorem gtW_far {F e p P ck : Int} {r : Rc} (h : F ≠ 0) : gtW F e p P ck r = (zeroR, 0, F) := by unfold gtW; rw [if_neg h]
theorem gtW_err {F e p p' P ck ck' : Int} {r r' : Rc} (h : e ≠ 0) : gtW F e p P ck r = gtW F e p' P ck' r' := by
  unfold gtW; rw [if_neg h, if_neg h]
theorem rget_any (s : ByteArray) (hs : s.size ≤ 1000000) (a : Int) (ha : -9223372036854775808 ≤ a ∧ a ≤ 9223372036854775807) (w : World) :
    Calls Try.prog 21 #[.string s, .int .i64 a] w (GetPost w (gt s.data.toList a)) := by
  have hs' : s.size ≤ 140737488351232 := by omega
  have hsl := size_list s
  have C := fun w => rname_any s hs' a ha w
  unfold nmV at C
  by_cases he : (nmI s.data.toList a).2.2 = 0
  · have hpl := nmI_place_any s.data.toList a
    obtain ⟨p, hp⟩ : ∃ p, (nmI s.data.toList a).2.1 = p := ⟨_, rfl⟩
    rw [hp] at hpl
    rw [he, hp] at C
    by_cases hf : p + 10 ≤ s.data.toList.length
    · have h0 : hdE s.data.toList a = 0 := by
        unfold hdE; rw [if_pos he, hp]; exact (pi_cut (s := s.data.toList) (a := p) (z := 10) hf).2.2
      have hq : hdP s.data.toList a = (p : Int) + 10 := by
        have := (pi_cut (s := s.data.toList) (a := p) (z := 10) hf).2.1
        unfold hdP; rw [hp]; rw [show ((10 : Nat) : Int) = 10 from rfl] at this; rw [this]; omega
      obtain ⟨n1, n2, n3, n4⟩ := hd_numbers hp hf
      have e : gt s.data.toList a = _ := if_pos h0
      rw [e]
      have hr0 := hdR_ok s.data.toList a ⟨#[]⟩ (by decide)
      have hnl := nmI_len s.data.toList a
      have hzl : hdZ s.data.toList a < 65536 := gZ_lt _
      have num : ∀ (k z : Nat), p + k + z ≤ s.data.toList.length → z ≤ 4 → ∀ w : World, Calls Try.prog 45 #[.string s, .int .i64 ((p : Int) + (k : Int)), .int .i64 (z : Int)] w fun e w' => e = .returned (.tuple #[.int .i64 (numB (piS s.data.toList ((p + k : Nat) : Int) (z : Int)) : Int), .int .i64 ((p : Int) + (k : Int) + (z : Int)), .int .i64 0]) ∧ w = w' := fun k z h h4 w => by
        have := rnumber_any s hs' ((p + k : Nat) : Int) (z : Int) (by omega) (by omega) w
        obtain ⟨e1, e2, e3⟩ := pi_cut (s := s.data.toList) (a := p + k) (z := z) h
        unfold nuV at this
        rw [e2, e3] at this
        rw [show ((p + k : Nat) : Int) = (p : Int) + (k : Int) by omega, show ((p + k + z : Nat) : Int) = (p : Int) + (k : Int) + (z : Int) by omega] at this
        rw [show ((p + k : Nat) : Int) = (p : Int) + (k : Int) by omega]
        exact this
      have N0 := num 0 2 (by omega) (by omega)
      have N1 := num 2 2 (by omega) (by omega)
      have N2 := num 4 4 (by omega) (by omega)
      have N3 := num 8 2 (by omega) (by omega)
      rw [show ((0 : Nat) : Int) = 0 from rfl, Int.add_zero, Nat.add_zero] at N0
      rw [show ((2 : Nat) : Int) = 2 from rfl] at N0 N1 N3
      rw [show ((4 : Nat) : Int) = 4 from rfl] at N2
      rw [show ((8 : Nat) : Int) = 8 from rfl] at N3
      rw [show (p : Int) + 2 + 2 = (p : Int) + 4 by omega] at N1
      rw [show (p : Int) + 4 + 4 = (p : Int) + 8 by omega] at N2
      rw [show (p : Int) + 8 + 2 = (p : Int) + 10 by omega] at N3
      rw [← n1] at N0
      rw [← n2] at N1
      rw [← n3] at N2
      rw [← n4] at N3
      have E := fun w => rraw_any s hs' ((p : Int) + 10) (hdZ s.data.toList a : Int) (by omega) (by omega) w
      unfold pcV at E
      have hxl := piS_le s.data.toList ((p : Int) + 10) (hdZ s.data.toList a : Int)
      have hH := fun w => rhead_any (hdR s.data.toList a).t hr0.t w
      by_cases hn : named (hdR s.data.toList a).t = true
      · obtain ⟨J, hJ⟩ : ∃ J, jr [] (rdP s.data.toList (lx (hdR s.data.toList a).t) ((p : Int) + 10)) = J := ⟨_, rfl⟩
        have hJ2 := lx_lay (z := hdZ s.data.toList a) (s := s.data.toList) (a := (p : Int) + 10) hn (by omega) (by omega)
        rw [hJ, ← hq] at hJ2
        rw [hn] at hH
        have hjl : J.1.length ≤ 1000000000 := by
          rw [hJ2]; unfold jr
          have := (gtP_len s.data.toList a).2
          split
          · simp only [List.nil_append]; exact Nat.le_trans this (by omega)
          · simp
        obtain ⟨jd, jn, je⟩ := J
        have hr := hdR_ok s.data.toList a ⟨jd.toArray⟩ (by show jd.length ≤ _; simp only at hjl; omega)
        have V := fun w => rrcheck_any { hdR s.data.toList a with d := ⟨jd.toArray⟩ } hr (by show (nmI s.data.toList a).1.length ≤ _; omega) w
        have hA : nhA (hdR s.data.toList a).t ≤ 2 := by unfold nhA; split <;> omega
        have hN : nhN (hdR s.data.toList a).t ≤ 2 := by unfold nhN; split <;> (try split) <;> omega
        have hB : nhB (hdR s.data.toList a).t ≤ 20 := by unfold nhB; split <;> omega
        have K := rget_named s a ⟨(nmI s.data.toList a).1.toArray⟩ p _ _ _ _ (gT_lt _) (gC_lt _) (gL_lt _) _ _ _ C N0 N1 N2 N3 _ _ _ _ hA hN hB hs jd jn je hf hJ w E hH V
        refine K.mono fun e w' h => ?_
        have hgw : gtW (piR s.data.toList ((p : Int) + 10) (hdZ s.data.toList a : Int)) je jn (piP s.data.toList ((p : Int) + 10) (hdZ s.data.toList a : Int)) (rck { hdR s.data.toList a with d := ⟨jd.toArray⟩ }) { hdR s.data.toList a with d := ⟨jd.toArray⟩ } =
          gtW (piR s.data.toList (hdP s.data.toList a) (hdZ s.data.toList a : Int)) (gtP s.data.toList a).2.2 (gtP s.data.toList a).2.1 (piP s.data.toList (hdP s.data.toList a) (hdZ s.data.toList a : Int)) (rck (gtR s.data.toList a)) (gtR s.data.toList a) := by
          rw [hq]
          have hJ3 : (jd, jn, je) = jr [] (gtP s.data.toList a) := hJ2
          unfold jr at hJ3
          by_cases he2 : (gtP s.data.toList a).2.2 = 0
          · rw [if_pos he2, List.nil_append] at hJ3
            obtain ⟨rfl, rfl, rfl⟩ : jd = joinP (gtP s.data.toList a).1 ∧ jn = (gtP s.data.toList a).2.1 ∧ je = 0 := by
              injection hJ3 with h1 h2; injection h2 with h2 h3; exact ⟨h1, h2, h3⟩
            rw [he2]
          · rw [if_neg he2] at hJ3
            obtain ⟨rfl, rfl, rfl⟩ : jd = [] ∧ jn = 0 ∧ je = (gtP s.data.toList a).2.2 := by
              injection hJ3 with h1 h2; injection h2 with h2 h3; exact ⟨h1, h2, h3⟩
            exact gtW_err he2
        rw [← hgw]
        exact h
      · have hn' : named (hdR s.data.toList a).t = false := by simpa using hn
        have hXs : (⟨(piS s.data.toList ((p : Int) + 10) (hdZ s.data.toList a : Int)).toArray⟩ : ByteArray).size ≤ 140737488351232 := by show (piS s.data.toList ((p : Int) + 10) (hdZ s.data.toList a : Int)).length ≤ _; omega
        have hr := hdR_ok s.data.toList a _ hXs
        have V := fun w => rrcheck_any { hdR s.data.toList a with d := ⟨(piS s.data.toList ((p : Int) + 10) (hdZ s.data.toList a : Int)).toArray⟩ } hr (by show (nmI s.data.toList a).1.length ≤ _; omega) w
        have hH0 : ∀ w : World, Calls Try.prog 47 #[.int .u16 ((hdR s.data.toList a).t : Int)] w fun e w' => e = .returned (.tuple #[.int .i64 0, .int .i64 0, .int .i64 0, .bool false]) ∧ w = w' := fun w => by
          have := hH w
          unfold named at hn'
          simp only [decide_eq_false_iff_not, not_or] at hn'
          obtain ⟨k1, k2, k3, k4, k5⟩ := hn'
          have e1 : nhA (hdR s.data.toList a).t = 0 := by unfold nhA; rw [if_neg k4]
          have e2 : nhN (hdR s.data.toList a).t = 0 := by
            unfold nhN; rw [if_neg, if_neg k5]
            rintro (h | h | h | h)
            · exact k1 h
            · exact k2 h
            · exact k3 h
            · exact k4 h
          have e3 : nhB (hdR s.data.toList a).t = 0 := by unfold nhB; rw [if_neg k5]
          have e4 : named (hdR s.data.toList a).t = false := by simpa using hn
          rw [e1, e2, e3, e4] at this
          exact this
        have K := rget_plain s a ⟨(nmI s.data.toList a).1.toArray⟩ p _ _ _ _ (gT_lt _) (gC_lt _) (gL_lt _) _ _ _ C N0 N1 N2 N3 _ w E hH0 V
        refine K.mono fun e w' h => ?_
        have hgw : gtW (piR s.data.toList ((p : Int) + 10) (hdZ s.data.toList a : Int)) 0 (piP s.data.toList ((p : Int) + 10) (hdZ s.data.toList a : Int)) (piP s.data.toList ((p : Int) + 10) (hdZ s.data.toList a : Int)) (rck { hdR s.data.toList a with d := ⟨(piS s.data.toList ((p : Int) + 10) (hdZ s.data.toList a : Int)).toArray⟩ }) { hdR s.data.toList a with d := ⟨(piS s.data.toList ((p : Int) + 10) (hdZ s.data.toList a : Int)).toArray⟩ } =
          gtW (piR s.data.toList (hdP s.data.toList a) (hdZ s.data.toList a : Int)) (gtP s.data.toList a).2.2 (gtP s.data.toList a).2.1 (piP s.data.toList (hdP s.data.toList a) (hdZ s.data.toList a : Int)) (rck (gtR s.data.toList a)) (gtR s.data.toList a) := by
          have hG : gtP s.data.toList a = rdP s.data.toList [(hdZ s.data.toList a : Int)] ((p : Int) + 10) := by unfold gtP; rw [hq, lay_plain hn']
          rw [hq]
          have e1 : rd1 s.data.toList ((p : Int) + 10) (hdZ s.data.toList a : Int) = (piS s.data.toList ((p : Int) + 10) (hdZ s.data.toList a : Int), piP s.data.toList ((p : Int) + 10) (hdZ s.data.toList a : Int), piR s.data.toList ((p : Int) + 10) (hdZ s.data.toList a : Int)) := if_neg (show ¬ ((hdZ s.data.toList a : Nat) : Int) = -1 by omega)
          by_cases hF : piR s.data.toList ((p : Int) + 10) (hdZ s.data.toList a : Int) = 0
          · rw [rdP_one, e1] at hG
            simp only at hG
            rw [if_pos hF] at hG
            have e2 : (gtP s.data.toList a).2.2 = 0 := by rw [hG]
            have e3 : (gtP s.data.toList a).2.1 = piP s.data.toList ((p : Int) + 10) (hdZ s.data.toList a : Int) := by rw [hG]
            have e4 : joinP (gtP s.data.toList a).1 = piS s.data.toList ((p : Int) + 10) (hdZ s.data.toList a : Int) := by rw [hG]; simp [joinP]
            unfold gtR
            rw [e2, e3, e4]
          · rw [gtW_far hF, gtW_far hF]
        rw [← hgw]
        exact h
    · rw [hd_far he hp hf]
      exact rget_far s hs' a _ p hpl hf w C
  · have h0 : hdE s.data.toList a ≠ 0 := by unfold hdE; rw [if_neg he]; omega
    have e : gt s.data.toList a = _ := if_neg h0
    rw [e]
    have e2 : hdE s.data.toList a = ((nmI s.data.toList a).2.2 : Int) := by unfold hdE; rw [if_neg he]
    rw [e2]
    exact rget_noname s a _ _ _ he w C
set_option maxRecDepth 100000 in
set_option maxHeartbeats 6400000 in
theorem lawReads_any (s : ByteArray) (a : Int) (ha : -9223372036854775808 ≤ a ∧ a ≤ 9223372036854775807) (w : World) :
    Calls Try.prog 4 #[.string s, .int .i64 a] w fun e w' => e = .returned (.bool true) ∧ Below w.heap.size w w' := by
  obtain ⟨t, ht, hsh⟩ := short_any s 3000
  have HSH := Lib.hid hsh
  have C := fun w => get_any t (by omega) a ha w
  have D := fun w => rget_any t (by omega) a ha w
  unfold GetPost at C D
  generalize gt t.data.toList a = R at C D
  obtain ⟨⟨n, ty, c, l, d⟩, p, e⟩ := R
  have HC := Lib.hid C
  have HD := Lib.hid D
  clear C D hsh
  go_enter Try.func4, Try.ntmps4
  go_wp2_with fail
  refine (awake_any w).mono ?_
  rintro e w1 ⟨rfl, hb1⟩
  go_wp2_with fail
  refine (HSH.out _).mono ?_
  rintro e w' ⟨rfl, rfl⟩
  go_wp2_with fail
  refine (HC.out _).mono ?_
  rintro e w2 ⟨rfl, hb2⟩
  have bb2 := hb1.trans (hb2.mono hb1.size)
  have B2 := Ce.new w2 25 #[.string n, .int .u16 (ty : Int), .int .u16 (c : Int), .int .u32 (l : Int), .string d]
  have bb3 := bb2.alloc bb2.size (.cells #[.string n, .int .u16 (ty : Int), .int .u16 (c : Int), .int .u32 (l : Int), .string d] 25)
  have HB2 := Lib.hid B2
  have HB3 := Lib.hid bb3
  clear hb1 hb2 B2 bb2 bb3
  go_wp2_with fail
  refine (HD.out _).mono ?_
  rintro e w4 ⟨rfl, hb4⟩
  obtain ⟨x0, x1, x2, x3, x4⟩ := c5 (HB2.out.below hb4)
  have hlt := (HB2.out.below hb4).lt
  have bb4 := HB3.out.trans (hb4.mono HB3.out.size)
  have bb5 := bb4.alloc bb4.size (.cells #[.string n, .int .u16 (ty : Int), .int .u16 (c : Int), .int .u32 (l : Int), .string d] 25)
  have HB5 := Lib.hid bb5
  clear hb4 bb4 bb5
  go_wp2
  go_ret
  exact ⟨rfl, HB5.out⟩
end Go.Proofs.Ytflpceaaelampaa
