/-
  What Get answers, for every text and place; no older memory is changed.
-/
import Derived.Test.YtflpceaaelampaaGetWalk
namespace Go.Proofs.Ytflpceaaelampaa
open Go.RowKit
abbrev gtP (s : Bs) (a : Int) : List Part × Int × Int := rdP s (lay (hdR s a).t (hdZ s a)) (hdP s a)
abbrev gtR (s : Bs) (a : Int) : Rc := { hdR s a with d := ⟨(joinP (gtP s a).1).toArray⟩ }
/-- The record that Get answers, the place behind it, the error. -/
def gt (s : Bs) (a : Int) : Rc × Int × Int :=
  if hdE s a = 0 then gtW (piR s (hdP s a) (hdZ s a : Int)) (gtP s a).2.2 (gtP s a).2.1 (piP s (hdP s a) (hdZ s a : Int)) (rck (gtR s a)) (gtR s a) else (zeroR, 0, hdE s a)
theorem hdR_ok (s : Bs) (a : Int) (d : ByteArray) (hd : d.size ≤ 140737488351232) : Rc.Ok { hdR s a with d := d } :=
  ⟨by show (nmI s a).1.length ≤ _; have := nmI_len s a; omega, hd, gT_lt _, gC_lt _, gL_lt _⟩
theorem gtP_len (s : Bs) (a : Int) : (gtP s a).1.length ≤ 3 ∧ (joinP (gtP s a).1).length ≤ 3 * (s.length + 255) := by
  have h1 := rdP_len s (lay (hdR s a).t (hdZ s a)) (hdP s a)
  have h2 := lay_len (hdR s a).t (hdZ s a)
  exact ⟨Nat.le_trans h1.1 h2, Nat.le_trans h1.2 (Nat.mul_le_mul_right _ h2)⟩
theorem get_any (s : ByteArray) (hs : s.size ≤ 1000000) (a : Int) (ha : -9223372036854775808 ≤ a ∧ a ≤ 9223372036854775807) (w : World) :
    Calls Try.prog 20 #[.string s, .int .i64 a] w (GetPost w (gt s.data.toList a)) := by
  have hs' : s.size ≤ 140737488351232 := by omega
  have C := fun w => head_any s hs' a ha w
  by_cases h0 : hdE s.data.toList a = 0
  · have e : gt s.data.toList a = _ := if_pos h0
    rw [e]
    have hl := gtP_len s.data.toList a
    have hsl := size_list s
    rw [← hsl] at hl
    have hq : 0 ≤ hdP s.data.toList a ∧ hdP s.data.toList a ≤ (s.data.toList.length : Int) := piP_bd s.data.toList ((nmI s.data.toList a).2.1 : Int) 10
    have hz : hdZ s.data.toList a < 65536 := gZ_lt (hdF s.data.toList a)
    have hr := hdR_ok s.data.toList a ⟨(joinP (gtP s.data.toList a).1).toArray⟩ (by show (joinP (gtP s.data.toList a).1).length ≤ _; omega)
    have C0 : ∀ w : World, Calls Try.prog 40 #[.string s, .int .i64 a] w fun e w' => e = .returned (.tuple #[(hdR s.data.toList a).v, plV s (hdP s.data.toList a) (hdZ s.data.toList a : Int), .int .i64 0]) ∧ Below w.heap.size w w' := fun w =>
      (C w).mono fun e w' ⟨h1, h2⟩ => by
        rcases h1 with ⟨_, h1⟩ | ⟨h1, _⟩
        · exact ⟨h1, h2⟩
        · exact absurd h0 h1
    have hqb : -9223372036854775808 ≤ hdP s.data.toList a ∧ hdP s.data.toList a ≤ 9223372036854775807 := by omega
    have hzb : -9223372036854775808 ≤ (hdZ s.data.toList a : Int) ∧ (hdZ s.data.toList a : Int) ≤ 9223372036854775807 := by omega
    have D := fun w => raw_any s hs' (hdP s.data.toList a) (hdZ s.data.toList a : Int) hqb hzb w
    have R1 := fun w => reading_any (.string s) (.int .i64 (hdP s.data.toList a)) (.int .i64 (hdZ s.data.toList a : Int)) (hdR s.data.toList a).t hr.t w
    have J := fun (w : World) (base : Nat) (v : Value) (h : Pts w base v (gtP s.data.toList a).1) => join_any (gtP s.data.toList a).1 v base w h (Nat.le_trans hl.1 (by omega)) (Nat.le_trans hl.2 (by omega))
    have V := fun w => rcheckrec_any (gtR s.data.toList a) hr w
    have H1 := fun w => host_any s hs' (hdP s.data.toList a) hqb (.int .i64 (hdZ s.data.toList a : Int)) w
    have H2 := fun w => exch_any s hs' (hdP s.data.toList a) hqb (.int .i64 (hdZ s.data.toList a : Int)) w
    have H3 := fun w => auth_any s hs' (hdP s.data.toList a) hqb (.int .i64 (hdZ s.data.toList a : Int)) w
    have H4 := fun w => whole_any s hs' (hdP s.data.toList a) hqb (hdZ s.data.toList a : Int) hzb w
    rcases rf_cases (hdR s.data.toList a).t (hdZ s.data.toList a) with ⟨e1, e2⟩ | ⟨e1, e2⟩ | ⟨e1, e2⟩ | ⟨e1, e2⟩
    · rw [e1] at R1
      rw [← e2] at H1
      exact get_66 s a _ _ _ _ _ _ _ _ _ _ _ _ _ _ w C0 D R1 H1 J V
    · rw [e1] at R1
      rw [← e2] at H2
      exact get_67 s a _ _ _ _ _ _ _ _ _ _ _ _ _ _ w C0 D R1 H2 J V
    · rw [e1] at R1
      rw [← e2] at H3
      exact get_68 s a _ _ _ _ _ _ _ _ _ _ _ _ _ _ w C0 D R1 H3 J V
    · rw [e1] at R1
      rw [← e2] at H4
      exact get_69 s a _ _ _ _ _ _ _ _ _ _ _ _ _ _ w C0 D R1 H4 J V
  · have e : gt s.data.toList a = _ := if_neg h0
    rw [e]
    refine get_nohead s a _ h0 w fun w => (C w).mono fun e w' ⟨h1, h2⟩ => ?_
    rcases h1 with ⟨h1, _⟩ | ⟨_, h1⟩
    · exact absurd h1 h0
    · exact ⟨h1, h2⟩
end Go.Proofs.Ytflpceaaelampaa
