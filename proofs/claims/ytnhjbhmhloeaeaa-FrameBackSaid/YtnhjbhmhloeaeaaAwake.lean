/-
  What the statements' own look 'awake' answers; no older memory is changed.
-/
import Derived.Test.YtnhjbhmhloeaeaaNext
import Derived.Test.YtnhjbhmhloeaeaaAll
namespace Go.Proofs.Ytnhjbhmhloeaeaa
open Go.RowKit
theorem aw1 : alS [[97, 98]] = [0, 2, 97, 98] ∧ alE [[97, 98]] = 0 := by decide +kernel
theorem aw2 : fl [0, 2, 97] = 0 ∧ hd [0, 2, 97] = [] ∧ tl [0, 2, 97] = [0, 2, 97] := by decide +kernel
theorem aw3 : fl [0, 2, 97, 98, 0, 0, 0] = 4 ∧ hd [0, 2, 97, 98, 0, 0, 0] = [97, 98] ∧ tl [0, 2, 97, 98, 0, 0, 0] = [0, 0, 0] := by decide +kernel
theorem aw4 : fl [0, 0, 0] = 2 ∧ hd [0, 0, 0] = [] ∧ tl [0, 0, 0] = [0] := by decide +kernel
/-- A reader whose blocks lie from n on, in a world that is below n as it was. -/
structure At (n : Nat) (w0 : World) (b : Nat) (R : Bs) (w : World) : Prop where
  rd : Rd (n ≤ ·) b R w
  bel : Below n w0 w
  le : n ≤ w.heap.size
theorem At.step {n b : Nat} {w0 w w' : World} {R R' : Bs} (h : At n w0 b R w) (hr : Rd (n ≤ ·) b R' w') (ht : Tr (n ≤ ·) w w') : At n w0 b R' w' :=
  ⟨hr, h.bel.trans (ht.below h.le fun _ => id), Nat.le_trans h.le ht.size⟩
theorem At.fed {n b : Nat} {w0 w w' : World} {R R' : Bs} (h : At n w0 b R w) (hr : Rd (andNew (n ≤ ·) w.heap.size) b R' w') (ht : Tr (n ≤ ·) w w') : At n w0 b R' w' :=
  h.step (hr.mono fun _ hk => hk.elim id (fun e => Nat.le_trans h.le e)) ht
theorem At.taken {n b : Nat} {w0 w w' : World} {R R' : Bs} (h : At n w0 b R w) (hr : Rd (n ≤ ·) b R' w') (ht : Tr (· = b) w w') : At n w0 b R' w' :=
  h.step hr (ht.mono fun k e => by subst e; exact h.rd.own)
theorem At.new {w0 w w' : World} {n b : Nat} {R : Bs} (hb : Below w0.heap.size w0 w) (hn : n = w0.heap.size) (hr : Rd (w.heap.size ≤ ·) b R w') (hw : Below w.heap.size w w') : At n w0 b R w' := by
  subst hn
  exact ⟨hr.mono fun k hk => Nat.le_trans hb.size hk, hb.trans (hw.mono hb.size), Nat.le_trans hb.size hw.size⟩
set_option maxRecDepth 100000 in
set_option maxHeartbeats 6400000 in
theorem awake_any (w : World) : Calls Try.prog 7 #[] w fun e w' => e = .returned (.bool true) ∧ Below w.heap.size w w' := by
  have H1 := Lib.hid aw1
  have H2 := Lib.hid aw2
  have H3 := Lib.hid aw3
  have H4 := Lib.hid aw4
  go_enter Try.func7, Try.ntmps7
  go_wp2_with fail
  refine (put_any [97, 98] (by simp) w).mono ?_
  rintro e w1 ⟨rfl, hb1⟩
  rw [H1.out.1, H1.out.2]
  go_wp2_with fail
  refine (new_any w1).mono ?_
  rintro e w2 ⟨rfl, hr, hb2⟩
  have A2 := Lib.hid (At.new (n := w.heap.size) hb1 rfl hr hb2)
  generalize w1.heap.size = b at A2
  clear hr hb2 hb1
  go_wp2_with fail
  refine (feed_any ⟨#[0, 2, 97]⟩ _ b _ w2 A2.out.rd (by decide)).mono ?_
  rintro e w3 ⟨rfl, hr, ht⟩
  have A3 : Hid (At w.heap.size w b [0, 2, 97] w3) := Lib.hid (A2.out.fed hr ht)
  rw [show ((([] : Bs).length + (⟨#[0, 2, 97]⟩ : ByteArray).size : Nat) : Int) = 3 from rfl]
  clear hr ht A2
  go_wp2_with fail
  refine (next_any _ b _ w3 A3.out.rd (by decide)).mono ?_
  rintro e w4 ⟨rfl, hr, ht⟩
  rw [H2.out.2.1, H2.out.1]
  rw [H2.out.2.2] at hr
  have A4 := Lib.hid (A3.out.taken hr ht)
  clear hr ht A3
  go_wp2_with fail
  refine (feed_any ⟨#[98, 0, 0, 0]⟩ _ b _ w4 A4.out.rd (by decide)).mono ?_
  rintro e w5 ⟨rfl, hr, ht⟩
  have A5 : Hid (At w.heap.size w b [0, 2, 97, 98, 0, 0, 0] w5) := Lib.hid (A4.out.fed hr ht)
  rw [show ((([0, 2, 97] : Bs).length + (⟨#[98, 0, 0, 0]⟩ : ByteArray).size : Nat) : Int) = 7 from rfl]
  clear hr ht A4
  go_wp2_with fail
  refine (next_any _ b _ w5 A5.out.rd (by decide)).mono ?_
  rintro e w6 ⟨rfl, hr, ht⟩
  rw [H3.out.2.1, H3.out.1]
  rw [H3.out.2.2] at hr
  have A6 := Lib.hid (A5.out.taken hr ht)
  clear hr ht A5
  go_wp2_with fail
  refine (next_any _ b _ w6 A6.out.rd (by decide)).mono ?_
  rintro e w7 ⟨rfl, hr, ht⟩
  rw [H4.out.2.1, H4.out.1]
  rw [H4.out.2.2] at hr
  have A7 := Lib.hid (A6.out.taken hr ht)
  clear hr ht A6
  go_wp2_with fail
  refine (left_any _ b _ w7 A7.out.rd).mono ?_
  rintro e w8 ⟨rfl, rfl⟩
  go_wp2
  go_ret
  exact ⟨rfl, A7.out.bel⟩
end Go.Proofs.Ytnhjbhmhloeaeaa
