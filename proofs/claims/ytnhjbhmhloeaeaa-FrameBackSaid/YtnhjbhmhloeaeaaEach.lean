/-
  The visitor of a reader's texts: it takes one by one, and hands each to a loop's body; for every body that keeps the reader as it is.
-/
import Derived.Test.YtnhjbhmhloeaeaaTake
namespace Go.Proofs.Ytnhjbhmhloeaeaa
open Go.RowKit Go.Shelf
attribute [local go_sem] Oper.semAt_some
/-- How many bytes are left of the reader at b. -/
def leftW (b : Nat) (w : World) : Nat := match w.cell? ⟨b, 0, none⟩ with
  | some (.slice _ n _) => n
  | _ => 0
theorem Rd.leftW {S : Nat → Prop} {b : Nat} {R : Bs} {w : World} (h : Rd S b R w) : leftW b w = R.length := by
  obtain ⟨v, t, hp⟩ := h
  obtain ⟨a, cap, rfl, _⟩ := hp.row.shape
  unfold Ytnhjbhmhloeaeaa.leftW
  rw [hp.blk.cell0]
theorem Rd.ne_box {S : Nat → Prop} {b B : Nat} {R : Bs} {w : World} {T : TypeId} {v : Value} (h : Rd S b R w) (hb : Boxed w B T v) : ¬ B = b := by
  obtain ⟨v', t, hp⟩ := h
  rintro rfl
  have := (show w.heap[B]? = _ from hb).symm.trans hp.blk
  simp at this
/-- What stands there between two rounds. -/
def Mid (S : Nat → Prop) (b B : Nat) (I : Bs → World → Prop) (R : Bs) (W : World) : Prop := R.length ≤ 1000000000 ∧ Rd S b R W ∧ Boxed W B 32 (ptr b) ∧ I R W
/-- A function that is there is not nil. -/
theorem not_nil (f : Fn) (a c : Array Value) (w : World) : (binOp .neq 51 (.func f a c) .nilFunc).run Try.prog w = .ok (.bool true) w := by
  have h : (Op.equalIn (9999 + 1) 51 (.func f a c) .nilFunc).run Try.prog w = .ok false w := by
    unfold Op.equalIn
    simp [run_underlying Try.underlying51]
  simp [binOp, Op.equal, show Op.maxDepth = 9999 + 1 from rfl, h]
/-- r.left[2:n], as a text. -/
theorem text_any {w : World} {g k n cap : Nat} {R : Bs} (h : Row w (.slice (some ⟨g, k, none⟩) n cap) R) (hf : fl R ≠ 0) :
    ∃ a c, (∀ W, (Instr.slice 28 (.slice (some ⟨g, k, none⟩) n cap) (some (.int .i64 2)) (some (.int .i64 (fl R : Int))) none).run Try.prog W = .ok (.slice (some a) (fl R - 2) c) W) ∧
      ∀ W, W.heap[g]? = w.heap[g]? → (convert 28 9 (.slice (some a) (fl R - 2) c)).run Try.prog W = .ok (str (hd R)) W := by
  have h2 := fl_two R hf
  have hle := fl_le R
  obtain ⟨_, cap', e, h3, _⟩ := h.shape
  cases e
  obtain ⟨_, _, e, _, hc⟩ := h.cells (fun e => hf (by rw [e, nil_fl]))
  cases e
  obtain ⟨i, hi, hz0, hz1, hz2⟩ := info_parts info5
  generalize hm : fl R = m at *
  have h5 : (2 : Int) ≤ (m : Int) := by omega
  have h6 : m ≤ cap := by omega
  refine ⟨if cap = 2 then ⟨g, k, none⟩ else ⟨g, k + 2, none⟩, cap - 2, fun W => ?_, fun W hW => ?_⟩
  · by_cases h7 : cap = 2
    · obtain rfl : m = 2 := by omega
      simp [Instr.slice, Instr.sliceBounds, Instr.sliceBound, run_underlying Try.underlying28, sizeOf, typeInfo, hi, asIntOf, h7]
    · simp [Instr.slice, Instr.sliceBounds, Instr.sliceBound, run_underlying Try.underlying28, sizeOf, typeInfo, hi, hz1, asIntOf, h5, h6, h7, Addr.add_lit]
  · have hl : m - 2 = (hd R).length := by rw [hd_length, hm]
    rw [hl]
    refine run_convert_bytes_back (P := Try.prog) W 28 9 5 _ _ (hd R) Try.underlying28 Try.underlying5 Try.underlying9 (fun j hj => ?_)
    rw [if_neg (by omega), Addr.add_lit, World.cell?_of_block (a := ⟨g, k + 2 + j, none⟩) hW, show k + 2 + j = k + (2 + j) by omega]
    refine hc (2 + j) _ ?_
    simp [hd, hm]
set_option maxRecDepth 100000 in
set_option maxHeartbeats 1600000 in
theorem each1_in (n : Nat) (hn : 1 ≤ n) (l B b : Nat) (S : Nat → Prop) (I : Bs → World → Prop) (Jx : World → Prop)
    (hI : ∀ R A C, I R A → Rd S b R A → Tr (· = b) A C → I R C)
    (hY : ∀ R W, fl R ≠ 0 → R.length ≤ 1000000000 → Rd S b (tl R) W → Boxed W B 32 (ptr b) → I R W → YieldAt Fence.wide (n - 1) Try.prog l #[str (hd R)] W fun e W' => (e = .returned (.bool true) ∧ Mid S b B I (tl R) W') ∨ (e = .returned (.bool false) ∧ Jx W'))
    (R0 : Bs) (W : World) (h0 : Mid S b B I R0 W) :
    CallsIn Fence.wide n Try.prog 19 #[.func (.yield l) #[] #[], ptr B] W fun e W' => (∃ v, e = .returned v) ∧ ((∃ R, fl R = 0 ∧ Mid S b B I R W') ∨ Jx W') := by
  have HY := Lib.hid hY
  have HI := Lib.hid hI
  have H0 := Lib.hid h0
  clear hY hI h0
  refine callsIn_of_wp Try.func19 rfl trivial ?_ rfl
  simp only [Try.ntmps19, List.size_toArray, List.length_cons, List.length_nil, Nat.reduceAdd, Nat.reduceSub, Array.replicate_succ, Array.replicate_zero, List.push_toArray, List.append_toArray, List.nil_append, List.cons_append]
  gi_wp2
  gi_loopw [] (fun wr => ∃ R, Mid S b B I R wr) (fun wr => leftW b wr)
  case atStart => exact ⟨R0, H0.out⟩
  case round =>
    clear H0
    obtain ⟨R, hR⟩ := hrel
    have H := Lib.hid hR
    have cB := hR.2.2.1.cell
    have hnn := not_nil (.yield l) #[] #[]
    have hfi := callsIn_wide (n := n - 1) |>.2 (first_any S b R wr hR.1 hR.2.1)
    have hlw := hR.2.1.leftW
    clear hR
    by_cases hf : fl R = 0
    · rw [hf] at hfi
      have HF := Lib.hid hfi
      clear hfi hlw
      gi_wp2_with fail
      refine ⟨trivial, ?_⟩
      refine HF.out.mono ?_
      rintro e wb ⟨rfl, hb'⟩
      gi_wp2
      refine bodyPost_ret (results_none rfl _ _ _) rfl ?_
      exact ⟨⟨_, rfl⟩, .inl ⟨R, hf, H.out.1, H.out.2.1.below hb', (Tr.of_below (S := fun _ => False) hb').boxed H.out.2.2.1 (fun h => h), HI.out _ _ _ H.out.2.2.2 H.out.2.1 (Tr.of_below hb')⟩⟩
    · have HF := Lib.hid hfi
      have h2 := fl_two R hf
      have hle := fl_le R
      have q0 : ((fl R : Int) == 0) = false := by simp; omega
      have HFL := Lib.hid hf
      clear hfi hf
      gi_wp2_with fail
      refine ⟨trivial, ?_⟩
      refine HF.out.mono ?_
      rintro e wb ⟨rfl, hb'⟩
      have hRd := H.out.2.1.below hb'
      obtain ⟨v, t, hp⟩ := hRd
      obtain ⟨a, cap, rfl, _, _⟩ := hp.row.shape
      obtain ⟨g, k, rfl, _, _⟩ := hp.row.cells (fun e => HFL.out (by rw [e, nil_fl]))
      have c0 := hp.blk.cell0
      obtain ⟨a2, c2, hsl, hcv⟩ := text_any hp.row HFL.out
      have hcv := hcv wb rfl
      have HT := Lib.hid (callsIn_wide (n := n - 1) |>.2 (take_any S b R wb (fl R) hle H.out.1 ⟨_, t, hp⟩))
      have cB := ((Tr.of_below (S := fun _ => False) hb').boxed H.out.2.2.1 (fun h => h)).cell
      have HBL := Lib.hid hb'
      clear hp hb'
      gi_wp2_with fail
      refine ⟨trivial, ?_⟩
      refine HT.out.mono ?_
      rintro e w3 ⟨⟨v3, rfl⟩, h3, ht3⟩
      have ht := (Tr.of_below (S := (· = b)) HBL.out).then ht3
      have hbx := ht.boxed H.out.2.2.1 (H.out.2.1.ne_box H.out.2.2.1)
      have hi3 := HI.out _ _ _ H.out.2.2.2 H.out.2.1 ht
      obtain ⟨fn, tmps, assign, body, hy, hR⟩ := HY.out R w3 HFL.out H.out.1 h3 hbx hi3
      have HR := Lib.hid hR
      clear hR h3 ht3 ht hbx hi3 hsl hcv
      gi_wp2_with fail
      refine HR.out.mono ?_
      rintro e w4 (⟨rfl, hm4⟩ | ⟨rfl, hj4⟩)
      · have hl4 := hm4.2.1.leftW
        rw [tl_length] at hl4
        have HM := Lib.hid hm4
        clear hm4
        gi_wp2
        go_roundw
        case rel => exact ⟨_, HM.out⟩
        case measure => rw [hl4, hlw]; omega
      · gi_wp2
        refine bodyPost_ret (results_none rfl _ _ _) rfl ?_
        exact ⟨⟨_, rfl⟩, .inr hj4⟩
end Go.Proofs.Ytnhjbhmhloeaeaa
