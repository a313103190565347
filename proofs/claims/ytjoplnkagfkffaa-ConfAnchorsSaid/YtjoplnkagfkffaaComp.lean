/-
  What comparison hands back, and what that function answers; no older memory is changed.
-/
import Derived.Test.YtjoplnkagfkffaaFromLast
import Derived.WalkLawsBesides
import Derived.Laws.EntriesVeiled
import Derived.BigQuiet
import Derived.Deep.QuietTactic
namespace Go.Proofs.Ytjoplnkagfkffaa
open Go.RowKit
/-- A function value that holds labels of two names against each other. -/
def Cm (w : World) (f : Value) (la lb : List Bs) : Prop := ∃ p q fa fb, f = .func (.func 62) #[] #[.pointer (some ⟨p, 0, none⟩), .pointer (some ⟨q, 0, none⟩)] ∧ Boxed w p 59 fa ∧ Boxed w q 59 fb ∧ Fl w fa la ∧ Fl w fb lb
theorem Cm.below {w w' : World} {f : Value} {la lb : List Bs} (h : Cm w f la lb) (hb : Below w.heap.size w w') : Cm w' f la lb := by
  obtain ⟨p, q, fa, fb, e, h1, h2, h3, h4⟩ := h
  exact ⟨p, q, fa, fb, e, (hb.block _ h1.lt).trans h1, (hb.block _ h2.lt).trans h2, h3.below hb, h4.below hb⟩
set_option maxRecDepth 100000 in
set_option maxHeartbeats 1600000 in
theorem comp_any (a b : ByteArray) (ha : a.size ≤ 1000000) (hb : b.size ≤ 1000000) (w : World) :
    Calls Try.prog 40 #[.string a, .string b] w fun e w' => ∃ f, e = .returned f ∧ Cm w' f (labs (low a.data.toList)) (labs (low b.data.toList)) ∧ Below w.heap.size w w' := by
  go_enter Try.func40, Try.ntmps40
  go_wp2_with fail
  refine (fl_any a ha w).mono ?_
  rintro e w1 ⟨fa, rfl, hfa, hb1⟩
  have HFA := Lib.hid hfa
  clear hfa
  go_wp2_with fail
  refine (fl_any b hb w1).mono ?_
  rintro e w2 ⟨fb, rfl, hfb, hb2⟩
  have hfa2 := HFA.out.below hb2
  have HFA2 := Lib.hid hfa2
  have HFB := Lib.hid hfb
  have hb12 := hb1.trans (hb2.mono hb1.size)
  clear hfb hfa2 hb1 hb2
  obtain ⟨ra, va, rfl, hva, hra⟩ := HFA2.out
  obtain ⟨rb, vb, rfl, hvb, hrb⟩ := HFB.out
  clear hva hra hvb hrb
  go_wp2
  go_ret
  have hp := Boxed.new w2 59 (.func (.func 76) #[] #[.pointer (some ⟨ra, 0, none⟩)])
  have hq := Boxed.new (w2.alloc (.cells #[.func (.func 76) #[] #[.pointer (some ⟨ra, 0, none⟩)]] 59)) 59 (.func (.func 76) #[] #[.pointer (some ⟨rb, 0, none⟩)])
  rw [World.size_alloc] at hq
  have hbb : Below w2.heap.size w2 ((w2.alloc (.cells #[.func (.func 76) #[] #[.pointer (some ⟨ra, 0, none⟩)]] 59)).alloc (.cells #[.func (.func 76) #[] #[.pointer (some ⟨rb, 0, none⟩)]] 59)) := ((Below.refl _ _).alloc (Nat.le_refl _) _).alloc (by simp) _
  exact ⟨_, rfl, ⟨_, _, _, _, rfl, hp.alloc _, hq, HFA2.out.below hbb, HFB.out.below hbb⟩, hb12.trans (hbb.mono hb12.size)⟩
theorem below_drewN (w : World) (n : Nat) : Below w.heap.size w (w.drewN n) := ⟨rfl, rfl, rfl, Nat.le_refl _, fun _ _ => rfl⟩
theorem fl1_drewN (i r : Nat) (v : Value) (ls : List Bs) (w : World) (hv : Boxed w r 22 v) (hr : Rd w v ls) (hl : ls.length ≤ 1000000) (hi : i ≤ 1000000) (n : Nat) :
    Calls Try.prog 76 #[.int .i64 (i : Int), .pointer (some ⟨r, 0, none⟩)] (w.drewN n) fun e w' => e = .returned (.string ⟨(frl ls i).toArray⟩) ∧ w' = w.drewN n :=
  (fl1_any i r v ls (w.drewN n) hv (hr.below (below_drewN w n)) hl hi).mono fun _ _ ⟨h1, h2⟩ => ⟨h1, h2.symm⟩
/-- Are the labels at a place the same? Does the one stand ahead of the other one? -/
def eqB (la lb : List Bs) (i : Nat) : Bool := frl la i == frl lb i
def ltB (la lb : List Bs) (i : Nat) : Bool := Op.bytesLess (frl la i) (frl lb i)
theorem ret_bb {a b c d : Bool} (h : a = c) (h2 : b = d) : Ending.returned (.tuple #[.bool a, .bool b]) = .returned (.tuple #[.bool c, .bool d]) := by rw [h, h2]
set_option maxRecDepth 100000 in
set_option maxHeartbeats 1600000 in
theorem cmp_any (i : Nat) (hi : i ≤ 1000000) (p q : Nat) (fa fb : Value) (la lb : List Bs) (hla : la.length ≤ 1000000) (hlb : lb.length ≤ 1000000) (w : World)
    (h1 : Boxed w p 59 fa) (h2 : Boxed w q 59 fb) (h3 : Fl w fa la) (h4 : Fl w fb lb) :
    Calls Try.prog 62 #[.int .i64 (i : Int), .pointer (some ⟨p, 0, none⟩), .pointer (some ⟨q, 0, none⟩)] w fun e w' => e = .returned (.tuple #[.bool (eqB la lb i), .bool (ltB la lb i)]) ∧ Below w.heap.size w w' := by
  obtain ⟨ra, va, rfl, hva, hra⟩ := h3
  obtain ⟨rb, vb, rfl, hvb, hrb⟩ := h4
  have c1 := h1.cell
  have c2 := h2.cell
  have K1 := Lib.hid (fl1_drewN i ra va la w hva hra hla hi)
  have K2 := Lib.hid (fl1_drewN i rb vb lb w hvb hrb hlb hi)
  clear hva hra hvb hrb h1 h2
  go_enter Try.func62, Try.ntmps62
  go_wp2
  go_quiet ((first | (go_at_call 76; with_reducible exact Calls.quiet_of_same (K1.out _)) | (go_at_call 76; with_reducible exact Calls.quiet_of_same (K2.out _))))
  go_wp2
  go_ret2
  exact ⟨ret_bb rfl rfl, below_drewN w nq⟩
end Go.Proofs.Ytjoplnkagfkffaa
