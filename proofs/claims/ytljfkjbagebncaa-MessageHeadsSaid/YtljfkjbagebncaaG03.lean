/-
  Frame: What is left as it was where just some blocks, and new ones, may have turned.
  RRow: What the document's row answers, for every text; no older memory is changed.
  RLabels: What the document's Check, Labels and Depth answer, for every text; no older memory is changed.
-/
import Derived.Test.YtljfkjbagebncaaG02

/- Frame -/
namespace Go.Proofs.Ytljfkjbagebncaa
open Go.RowKit
abbrev ptr (b : Nat) : Value := .pointer (some ⟨b, 0, none⟩)
/-- Of the blocks that were there just those of S may have turned. -/
structure Tr (S : Nat → Prop) (w w' : World) : Prop where
  os : w'.os = w.os
  tape : w'.tape = w.tape
  output : w'.output = w.output
  size : w.heap.size ≤ w'.heap.size
  block : ∀ k, k < w.heap.size → ¬ S k → w'.heap[k]? = w.heap[k]?
/-- S, and all that is new since the heap had so many blocks. -/
def andNew (S : Nat → Prop) (n : Nat) : Nat → Prop := fun k => S k ∨ n ≤ k
theorem Tr.refl (S : Nat → Prop) (w : World) : Tr S w w := ⟨rfl, rfl, rfl, Nat.le_refl _, fun _ _ _ => rfl⟩
theorem Tr.trans {S S' : Nat → Prop} {a b c : World} (h : Tr S a b) (k : Tr S' b c) (hS : ∀ i, S' i → S i ∨ a.heap.size ≤ i) : Tr S a c :=
  ⟨k.os.trans h.os, k.tape.trans h.tape, k.output.trans h.output, Nat.le_trans h.size k.size, fun i hi hs => (k.block i (Nat.lt_of_lt_of_le hi h.size) (fun h' => by rcases hS i h' with h' | h'; exact hs h'; omega)).trans (h.block i hi hs)⟩
theorem Tr.then {S : Nat → Prop} {a b c : World} (h : Tr S a b) (k : Tr S b c) : Tr S a c := h.trans k fun _ => .inl
theorem Tr.of_below {S : Nat → Prop} {w w' : World} (h : Below w.heap.size w w') : Tr S w w' := ⟨h.os, h.tape, h.output, h.size, fun k hk _ => h.block k hk⟩
theorem Tr.below {S : Nat → Prop} {w w' : World} {n : Nat} (h : Tr S w w') (hn : n ≤ w.heap.size) (hS : ∀ k, S k → n ≤ k) : Below n w w' :=
  ⟨h.os, h.tape, h.output, h.size, fun k hk => h.block k (by omega) (fun hs => by have := hS k hs; omega)⟩
theorem Tr.drew {S : Nat → Prop} {a w : World} (h : Tr S a w) : Tr S a w.drew := ⟨h.os, h.tape, h.output, h.size, h.block⟩
theorem Tr.alloc {S : Nat → Prop} {a w : World} (h : Tr S a w) (o : Obj) : Tr S a (w.alloc o) := h.then (Tr.of_below ((Below.refl _ w).alloc (Nat.le_refl _) o))
theorem Tr.setCell {S : Nat → Prop} {a w : World} (h : Tr S a w) {b i : Nat} (hb : S b ∨ a.heap.size ≤ b) (v : Value) : Tr S a (w.setCell ⟨b, i, none⟩ v) :=
  h.trans (S' := (· = b)) ⟨rfl, rfl, rfl, by simp, fun k _ hk => Below.heap_setCell _ _ _ _ hk⟩ (fun k hk => by rw [hk]; exact hb)
theorem Tr.grown {S : Nat → Prop} {a w w' : World} {row : Option Nat} (h : Tr S a w) (hg : w.grownBy w' row) (hr : ∀ k, row = some k → S k ∨ a.heap.size ≤ k) : Tr S a w' :=
  h.trans (S' := fun k => row = some k) ⟨hg.os, hg.tape, hg.output, hg.size, fun k hk hs => hg.block k hk (fun e => hs e.symm)⟩ hr
theorem Tr.mono {S S' : Nat → Prop} {w w' : World} (h : Tr S w w') (hS : ∀ k, S k → S' k) : Tr S' w w' := ⟨h.os, h.tape, h.output, h.size, fun k hk hs => h.block k hk (fun h' => hs (hS k h'))⟩
theorem Tr.boxed {S : Nat → Prop} {w w' : World} (h : Tr S w w') {B : Nat} {t : TypeId} {v : Value} (hb : Boxed w B t v) (hS : ¬ S B) : Boxed w' B t v := (h.block B hb.lt hS).trans hb
theorem Tr.cell {S : Nat → Prop} {w w' : World} (h : Tr S w w') {p : Addr} (hp : p.block < w.heap.size) (hS : ¬ S p.block) : w'.cell? p = w.cell? p := World.cell?_of_block (w := w) (h.block p.block hp hS)
theorem Tr.row {S : Nat → Prop} {w w' : World} (h : Tr S w w') {base : Nat} {e : TypeId} {size : Nat} {v : Value} {n : Nat} {xs : List Value} (hr : w.ownsRow base e size v n xs) (hS : ∀ k, v.ownBlock = some k → ¬ S k) : w'.ownsRow base e size v n xs := by
  obtain ⟨h1, h2⟩ := hr
  refine ⟨h1, ?_⟩
  rcases h2 with h2 | ⟨g, cap, cur, rfl, hb, hg, r⟩
  · exact .inl h2
  · exact .inr ⟨g, cap, cur, rfl, hb, (h.block g (Array.getElem?_eq_some_iff.1 hg).1 (hS g rfl)).trans hg, r⟩
end Go.Proofs.Ytljfkjbagebncaa

/- RRow -/
namespace Go.Proofs.Ytljfkjbagebncaa
open Go.RowKit
theorem ret_vb {v : Value} {a b : Bool} (h : a = b) : Ending.returned (.tuple #[v, .bool a]) = .returned (.tuple #[v, .bool b]) := by rw [h]
theorem row_end (s : ByteArray) (pre : List Bs) (r : Bs) (e : s.data.toList = enc pre ++ r) (h : ¬ (enc pre).length < s.size) : false = (r == [0]) ∧ (((enc pre).length : Int) == (s.size : Int) - 1) = false := by
  have h1 : s.size = (enc pre).length + r.length := by rw [size_list, e, List.length_append]
  have h2 : r = [] := List.length_eq_zero_iff.1 (by omega)
  subst h2
  exact ⟨by decide, by simp at h1; simp; omega⟩
theorem row_zero (s : ByteArray) (pre : List Bs) (r : Bs) (e : s.data.toList = enc pre ++ r) (h : (enc pre).length < s.size) (h0 : s[(enc pre).length].toNat = 0) : (((enc pre).length : Int) == (s.size : Int) - 1) = (r == [0]) := by
  obtain ⟨c, t, rfl, h1, h2⟩ := at_rest s pre r e h
  rw [h1] at h0
  obtain rfl : c = 0 := UInt8.toNat_inj.1 (by simpa using h0)
  rw [Bool.eq_iff_iff]
  simp
  constructor
  · intro h3; exact List.length_eq_zero_iff.1 (by omega)
  · rintro rfl; simp at h2; omega
theorem row_bad (s : ByteArray) (pre : List Bs) (r : Bs) (e : s.data.toList = enc pre ++ r) (h : (enc pre).length < s.size) (h0 : ¬ s[(enc pre).length].toNat = 0) : false = (r == [0]) := by
  obtain ⟨c, t, rfl, h1, h2⟩ := at_rest s pre r e h
  rw [h1] at h0
  symm
  simp
  intro h3 _
  subst h3
  exact h0 rfl
set_option maxRecDepth 100000 in
set_option maxHeartbeats 1600000 in
theorem rrow_any (s : ByteArray) (hs : s.size ≤ 1000000) (w : World) :
    Calls Try.prog 114 #[.string s] w fun e w' => ∃ v, e = .returned (.tuple #[v, .bool (rest s.data.toList == [0])]) ∧ (rest s.data.toList = [0] → Own9 w' w.heap.size v (labs s.data.toList)) ∧ Below w.heap.size w w' := by
  obtain ⟨i0, hi, hz0, hz1, hz2⟩ := info_parts info9
  go_enter Try.func114, Try.ntmps114
  go_wp2
  go_loopw [4, 5] (fun v i wr => ∃ (pre rst : List Bs), labs s.data.toList = pre ++ rst ∧ (enc pre).length ≤ s.size ∧ i = .int .i64 ((enc pre).length : Int) ∧ Own9 wr w.heap.size v pre ∧ Below w.heap.size w wr)
    (fun _ i _ => s.size - (intOf i).toNat)
  case atStart => exact ⟨[], _, rfl, Nat.zero_le _, rfl, own9_nil _ _, Below.refl _ _⟩
  case round =>
    obtain ⟨pre, rst, hl, hle, rfl, hown, hb⟩ := hrel
    have hsp := split s.data.toList
    have hok := labs_ok s.data.toList
    rw [hl] at hsp hok
    have HOWN := Lib.hid hown
    clear hown
    cases rst with
    | nil =>
      simp only [List.append_nil] at hl hsp
      have hr := stop_rest s pre _ hsp.symm (rest_step _)
      have e1 := row_end s pre _ hsp.symm
      have e2 := row_zero s pre _ hsp.symm
      have e3 := row_bad s pre _ hsp.symm
      have HL := Lib.hid hl
      clear hl hsp hok
      generalize hp : (enc pre).length = p at hle hr e1 e2 e3 ⊢
      clear hp
      by_cases hlt : p < s.size
      · have hr' := hr hlt
        have e2 := e2 hlt
        have e3 := e3 hlt
        have q0 : (p : Int) < (s.size : Int) := by omega
        obtain ⟨c, hc'⟩ : ∃ c, s[p].toNat = c := ⟨_, rfl⟩
        have hcb : (c : Int) < 256 := by have := s[p].toNat_lt; omega
        rw [hc'] at hr' e2 e3
        have E2 := Lib.hid e2
        have E3 := Lib.hid e3
        clear hr e1 e2 e3
        by_cases g1 : c = 0
        · have E := Lib.hid (E2.out g1)
          subst g1
          clear hr' E2 E3
          go_wp2
          go_ret2
          exact ⟨_, by first | exact ret_vb E.out | rfl, fun _ => by rw [HL.out]; exact HOWN.out, hb⟩
        · have q1 : ((c : Int) == 0) = false := by simp; omega
          have q1' : ((c : Int) != 0) = true := by simp; omega
          have E := Lib.hid (E3.out g1)
          by_cases g2 : 63 < c
          · have q2 : (63 : Int) < (c : Int) := by omega
            clear hr' E2 E3
            go_wp2
            go_ret2
            exact ⟨_, ret_vb E.out, fun h => by have := E.out; rw [h] at this; simp at this, hb⟩
          · have q2 : decide ((63 : Int) < (c : Int)) = false := by simp; omega
            have q3 : (s.size : Int) < (p : Int) + 1 + (c : Int) := by omega
            clear hr' E2 E3
            go_wp2
            go_ret2
            exact ⟨_, ret_vb E.out, fun h => by have := E.out; rw [h] at this; simp at this, hb⟩
      · obtain ⟨e4, e5⟩ := e1 hlt
        have E4 := Lib.hid e4
        have q0 : decide ((p : Int) < (s.size : Int)) = false := by simp; omega
        clear hr e1 e2 e3 e4
        go_wp2
        go_ret2
        exact ⟨_, ret_vb E4.out, fun _ => by rw [HL.out]; exact HOWN.out, hb⟩
    | cons x rst =>
      have hx : OkL x := hok x (by simp)
      rw [enc_append, enc_cons, List.append_assoc, List.append_assoc] at hsp
      obtain ⟨hlt, hb1, hle2, hex⟩ := go_rest s pre x _ hsp.symm hx
      have HL := Lib.hid hl
      have HE := Lib.hid (enc_snoc_length pre x)
      have hpn := length_le_enc pre
      have hpn2 : pre.length ≤ 1000000 := by omega
      obtain ⟨hx1, hx2⟩ := hx
      clear hl hsp hok hpn
      generalize hp : (enc pre).length = p at hle hlt hb1 hle2 hex HE ⊢
      clear hp
      generalize hm : x.length = m at hb1 hle2 hex HE hx1 hx2 ⊢
      have q0 : (p : Int) < (s.size : Int) := by omega
      have q1 : ((m : Int) == 0) = false := by simp; omega
      have q1' : ((m : Int) != 0) = true := by simp; omega
      have q2 : decide ((63 : Int) < (m : Int)) = false := by simp; omega
      have q3 : decide ((s.size : Int) < (p : Int) + 1 + (m : Int)) = false := by simp; omega
      have hmb : (m : Int) ≤ 63 := by omega
      have hsl : ∀ w, (Instr.slice 9 (.string s) (some (.int .i64 ((p : Int) + 1))) (some (.int .i64 ((p : Int) + 1 + (m : Int)))) none).run Try.prog w = .ok (.string ⟨x.toArray⟩) w := fun w => by
        have h := run_slice_string (P := Try.prog) w 9 s .i64 .i64 ((p : Int) + 1) ((p : Int) + 1 + (m : Int)) Try.underlying9 (by omega) (by omega) (by omega)
        rw [h, ← hex]
        congr 3 <;> omega
      clear hm hex
      go_wp2_with (at_builtin; refine wpList_append_own _ rfl (.tmp 32) (.tmp 41) 114 rfl w.heap.size 9 i0 (.string ⟨#[]⟩) 1 16 Try.underlying114 hi hz0 hz1 hz2 rfl (by decide) _ _ _ rfl (World.ownsRow.alloc HOWN.out _) ⟨wr.heap.size, 0, none⟩ 1 1 [str x] rfl rfl (cell_one_new _ _ _) (by simp [Value.oneCell']) (by unfold maxLen; omega) (by omega) (by have := hb.size; simp; omega) ?_)
      intro v' w1 hown' hgrow _
      have R := Lib.hid (own9_next HOWN.out (Nat.le_refl _) hb hown' hgrow)
      clear hown' hgrow hb hsl
      go_wp2
      go_roundw
      case rel => exact ⟨pre ++ [x], rst, by rw [HL.out]; simp, by rw [HE.out]; exact hle2, by rw [HE.out]; go_num, R.out.1, R.out.2⟩
      case measure => simp [intOf]; omega
end Go.Proofs.Ytljfkjbagebncaa

/- RLabels -/
namespace Go.Proofs.Ytljfkjbagebncaa
open Go.RowKit
set_option maxRecDepth 100000 in
set_option maxHeartbeats 1600000 in
theorem rcheck_any (s : ByteArray) (hs : s.size ≤ 1000000) (w : World) :
    Calls Try.prog 113 #[.string s] w fun e w' => e = .returned (.int .i64 (chk s.data.toList)) ∧ Below w.heap.size w w' := by
  by_cases g : rest s.data.toList = [0]
  · have q : (rest s.data.toList == [0]) = true := by simpa using g
    have q' : (!rest s.data.toList == [0]) = false := by simpa using g
    have f1 := chk_size s q'
    have f2 := chk_ok s q'
    have F1 := Lib.hid f1
    have F2 := Lib.hid f2
    have Q := Lib.hid q
    clear g q q' f1 f2
    by_cases g2 : 255 < s.size
    · have q2 : (255 : Int) < (s.size : Int) := by omega
      go_enter Try.func113, Try.ntmps113
      go_wp2_with (go_at_call 114; refine (rrow_any s hs _).mono ?_; rintro e w2 ⟨v, rfl, _, hb2⟩; rw [Q.out])
      go_ret
      exact ⟨ret_i64 (F1.out q2), hb2⟩
    · have q2 : decide ((255 : Int) < (s.size : Int)) = false := by simp; omega
      go_enter Try.func113, Try.ntmps113
      go_wp2_with (go_at_call 114; refine (rrow_any s hs _).mono ?_; rintro e w2 ⟨v, rfl, _, hb2⟩; rw [Q.out])
      go_ret
      exact ⟨ret_i64 (F2.out (by omega)), hb2⟩
  · have q : (rest s.data.toList == [0]) = false := by simpa using g
    have q' : (!rest s.data.toList == [0]) = true := by simpa using g
    have F := Lib.hid (chk_form s q')
    have Q := Lib.hid q
    clear g q q'
    go_enter Try.func113, Try.ntmps113
    go_wp2_with (go_at_call 114; refine (rrow_any s hs _).mono ?_; rintro e w2 ⟨v, rfl, _, hb2⟩; rw [Q.out])
    go_ret
    exact ⟨ret_i64 F.out, hb2⟩
set_option maxRecDepth 100000 in
set_option maxHeartbeats 1600000 in
theorem rlabels_yes (s : ByteArray) (hs : s.size ≤ 1000000) (g : chk s.data.toList = 0) (w : World) :
    Calls Try.prog 95 #[.string s] w fun e w' => ∃ v, e = .returned (.tuple #[v, .int .i64 0]) ∧ Own9 w' w.heap.size v (labs s.data.toList) ∧ Below w.heap.size w w' := by
  have G := Lib.hid g
  have R := Lib.hid (chk_zero.1 g).1
  clear g
  go_enter Try.func95, Try.ntmps95
  go_wp2_with (first | (go_at_call 113; refine (rcheck_any s hs _).mono ?_; rintro e w1 ⟨rfl, hb1⟩; rw [G.out]) | (go_at_call 114; refine (rrow_any s hs _).mono ?_; rintro e w2 ⟨v, rfl, hown, hb2⟩))
  go_ret2
  exact ⟨v, rfl, (hown R.out).mono hb1.size, hb1.trans (hb2.mono hb1.size)⟩
set_option maxRecDepth 100000 in
set_option maxHeartbeats 1600000 in
theorem rlabels_no (s : ByteArray) (hs : s.size ≤ 1000000) (g : ¬ chk s.data.toList = 0) (w : World) :
    Calls Try.prog 95 #[.string s] w fun e w' => e = .returned (.tuple #[.slice none 0 0, .int .i64 (chk s.data.toList)]) ∧ Below w.heap.size w w' := by
  have q : (chk s.data.toList == 0) = false := by simpa using g
  have q' : (chk s.data.toList != 0) = true := by simpa using g
  clear g
  go_enter Try.func95, Try.ntmps95
  go_wp2_with (go_at_call 113; refine (rcheck_any s hs _).mono ?_; rintro e w1 ⟨rfl, hb1⟩)
  go_ret2
  exact ⟨rfl, hb1⟩
end Go.Proofs.Ytljfkjbagebncaa
