/-
  What a reader's New, Left, Reset, Feed, first and take leave and answer; all else is as it was.
-/
import Derived.Test.YtnhjbhmhloeaeaaFrame
namespace Go.Proofs.Ytnhjbhmhloeaeaa
open Go.RowKit
theorem rd_new (w : World) (S : Nat → Prop) (hS : S w.heap.size) : Rd S w.heap.size [] (w.alloc (.cells #[.slice none 0 0, .int .i64 0] 50)) :=
  ⟨_, 0, heap_alloc_new w _, .inl ⟨rfl, rfl⟩, fun k hk => by simp [Value.ownBlock] at hk, hS, Nat.zero_le _⟩
set_option maxRecDepth 100000 in
set_option maxHeartbeats 1600000 in
theorem new_any (w : World) :
    Calls Try.prog 12 #[] w fun e w' => e = .returned (ptr w.heap.size) ∧ Rd (w.heap.size ≤ ·) w.heap.size [] w' ∧ Below w.heap.size w w' := by
  have H := Lib.hid (rd_new w (w.heap.size ≤ ·) (Nat.le_refl _))
  go_enter Try.func12, Try.ntmps12
  go_wp2
  go_ret
  exact ⟨rfl, H.out, (Below.refl _ _).alloc (Nat.le_refl _) _⟩
set_option maxRecDepth 100000 in
set_option maxHeartbeats 1600000 in
theorem left_any (S : Nat → Prop) (b : Nat) (R : Bs) (w : World) (h : Rd S b R w) :
    Calls Try.prog 17 #[ptr b] w fun e w' => e = .returned (.int .i64 (R.length : Int)) ∧ w = w' := by
  obtain ⟨v, t, hp⟩ := h
  have c0 := hp.blk.cell0
  obtain ⟨a, cap, rfl, _⟩ := hp.row.shape
  clear hp
  go_enter Try.func17, Try.ntmps17
  go_wp2
  go_ret
  exact ⟨rfl, rfl⟩
set_option maxRecDepth 100000 in
set_option maxHeartbeats 1600000 in
theorem reset_any (S : Nat → Prop) (b : Nat) (R : Bs) (w : World) (h : Rd S b R w) :
    Calls Try.prog 15 #[ptr b] w fun e w' => (∃ v, e = .returned v) ∧ Rd S b [] w' ∧ Tr (· = b) w w' := by
  obtain ⟨v, t, hp⟩ := h
  have c0 := hp.blk.cell0
  have c1 := hp.blk.cell1
  have f0 := hp.blk.frozen0
  have f1 := hp.blk.frozen1
  obtain ⟨a, cap, rfl, _⟩ := hp.row.shape
  have HP := Lib.hid hp
  clear hp
  go_enter Try.func15, Try.ntmps15
  go_wp2
  go_end0
  exact ⟨⟨_, rfl⟩, ⟨_, 0, (HP.out.blk.set0 _).set1 _, .inl ⟨rfl, rfl⟩, fun k hk => by simp [Value.ownBlock] at hk, HP.out.own, Nat.zero_le _⟩, ((Tr.refl (· = b) w).setCell (.inl rfl) _).setCell (.inl rfl) _⟩
/-- Where the bytes grow: what the walk wants, and what is left. -/
theorem RV.app {S : Nat → Prop} {b : Nat} {R l : Bs} {v v' : Value} {t : Nat} {w w1 : World} (h : RV S b R v t w) (hrow : Row w1 v' (R ++ l)) (hg : w.grownBy w1 v.ownBlock) (hloc : v'.ownBlock = v.ownBlock ∨ v'.ownBlock = some w.heap.size) :
    Blk 50 w1 b v (.int .i64 (t : Int)) ∧ Rd (andNew S w.heap.size) b (R ++ l) (w1.setCell ⟨b, 0, none⟩ v') ∧ Tr S w (w1.setCell ⟨b, 0, none⟩ v') := by
  have hk : Blk 50 w1 b v (.int .i64 (t : Int)) := (hg.block b h.blk.lt (fun e => h.row.not_blk h.blk (by decide) e.symm)).trans h.blk
  have ht : Tr S w w1 := (Tr.refl S w).grown hg (fun k e => .inl (h.rowS k e))
  have hne : v'.ownBlock ≠ some b := hrow.not_blk hk (by decide)
  have hl := h.le
  refine ⟨hk, ⟨v', t, hk.set0 v', hrow.tr (S := (· = b)) ((Tr.refl (· = b) w1).setCell (.inl rfl) _) (fun k e hkb => hne (by rw [e, hkb])), ?_, .inl h.own, by rw [List.length_append]; omega⟩, ht.setCell (.inl h.own) _⟩
  intro k e
  rcases hloc with e' | e'
  · exact .inl (h.rowS k (by rw [← e']; exact e))
  · rw [e'] at e; cases e; exact .inr (Nat.le_refl _)
set_option maxRecDepth 100000 in
set_option maxHeartbeats 1600000 in
theorem feed_any (s : ByteArray) (S : Nat → Prop) (b : Nat) (R : Bs) (w : World) (h : Rd S b R w) (hB : R.length + s.size ≤ 1000000000) :
    Calls Try.prog 16 #[ptr b, .string s] w fun e w' => e = .returned (.int .i64 ((R.length + s.size : Nat) : Int)) ∧ Rd (andNew S w.heap.size) b (R ++ s.data.toList) w' ∧ Tr S w w' := by
  obtain ⟨v, t, hp⟩ := h
  have c0 := hp.blk.cell0
  obtain ⟨a, cap, rfl, _, _⟩ := hp.row.shape
  have HP := Lib.hid hp
  have HSZ := Lib.hid (size_list s)
  obtain ⟨n, hn⟩ : ∃ n, n = R.length := ⟨_, rfl⟩
  have HN := Lib.hid hn
  rw [← hn] at hB c0 ⊢
  clear hp hn
  go_enter Try.func16, Try.ntmps16
  go_wp2_with (at_builtin; refine wpList_app _ rfl (.tmp 11) (.tmp 12) rfl rfl _ R rfl (by rw [HN.out]; exact HP.out.row) s rfl (by rw [← HN.out]; omega) ?_)
  intro v' w1 hrow hg hloc
  obtain ⟨a', cap', rfl, _, _⟩ := hrow.shape
  have hl : (R ++ s.data.toList).length = n + s.size := by rw [List.length_append, ← HSZ.out, HN.out]
  have A := Lib.hid (HP.out.app hrow (by rw [← HN.out]; exact hg) (by rw [← HN.out]; exact hloc))
  rw [hl] at A
  have d0 := A.out.1.cell0
  have f0 := A.out.1.frozen0
  have g0 := (A.out.1.set0 (.slice a' (n + s.size) cap')).cell0
  rw [hl]
  clear hrow hg hloc c0 hl
  go_wp2
  go_ret
  exact ⟨by go_num, A.out.2⟩
theorem or_add (a b : Nat) (h : b < 256) : a * 256 ||| b = a * 256 + b := by
  have := Nat.two_pow_add_eq_or_of_lt (i := 8) (by omega : b < 2 ^ 8) a
  rw [Nat.mul_comm a 256]
  exact this.symm
theorem i64_or_nat (a b : Nat) (ha : a < 65536) (hb : b < 65536) : bits .or .i64 (a : Int) (b : Int) = ((a ||| b : Nat) : Int) := by
  have hx : a ||| b < 2 ^ 16 := Nat.or_lt_two_pow (by omega) (by omega)
  have e : ∀ c : Nat, c < 65536 → (BitVec.ofInt 64 (c : Int)).toNat = c := fun c hc => by
    rw [BitVec.ofInt_natCast, BitVec.toNat_ofNat]; exact Nat.mod_eq_of_lt (by omega)
  show IntKind.i64.wrap ((BitVec.ofInt 64 (a : Int) ||| BitVec.ofInt 64 (b : Int)).toNat : Int) = _
  rw [BitVec.toNat_or, e a ha, e b hb]
  simp [IntKind.wrap, IntKind.bits, IntKind.signed]
  omega
theorem or_val (x c : Nat) (hx : x < 256) (hc : c < 256) : bits .or .i64 ((x : Int) * 256) (c : Int) = ((x * 256 + c : Nat) : Int) := by
  have h := i64_or_nat (x * 256) c (by omega) (by omega)
  rw [or_add x c hc] at h
  rw [← h, show ((x * 256 : Nat) : Int) = (x : Int) * 256 from Int.natCast_mul x 256]
set_option maxRecDepth 100000 in
set_option maxHeartbeats 1600000 in
theorem first_any (S : Nat → Prop) (b : Nat) (R : Bs) (w : World) (hB : R.length ≤ 1000000000) (h : Rd S b R w) :
    Calls Try.prog 20 #[ptr b] w fun e w' => e = .returned (.int .i64 (fl R : Int)) ∧ Below w.heap.size w w' := by
  have HL := Lib.hid (left_any S b R w h)
  obtain ⟨v, t, hp⟩ := h
  have c0 := hp.blk.cell0
  obtain ⟨a, cap, rfl, _, _⟩ := hp.row.shape
  have hrow := hp.row
  clear hp
  by_cases h2 : R.length < 2
  · have HF := Lib.hid (fl_no (R := R) (by omega))
    have q : ((R.length : Int) < 2) := by omega
    rw [HF.out]
    go_enter Try.func20, Try.ntmps20
    go_wp2_with fail
    refine HL.out.mono ?_
    rintro e w' ⟨rfl, rfl⟩
    go_wp2
    go_ret
    exact ⟨rfl, Below.refl _ _⟩
  · obtain ⟨g, k, rfl, _, hc⟩ := hrow.cells (by intro e; rw [e] at h2; simp at h2)
    have hs := sz_two (R := R) (by omega)
    have c1 := hc 0 _ (List.getElem?_eq_getElem (by omega))
    have c2 := hc 1 _ (List.getElem?_eq_getElem (by omega))
    rw [Nat.add_zero] at c1
    generalize hx : (R[0]'(by omega)).toNat = x at hs c1
    generalize hy : (R[1]'(by omega)).toNat = y at hs c2
    have hx1 : x < 256 := by rw [← hx]; exact UInt8.toNat_lt _
    have hy1 : y < 256 := by rw [← hy]; exact UInt8.toNat_lt _
    have hor := or_val x y hx1 hy1
    have HF := Lib.hid (show fl R = if x * 256 + y + 2 ≤ R.length then 2 + (x * 256 + y) else 0 by
      unfold fl; rw [hs]; congr 1; simp only [eq_iff_iff]; omega)
    have q0 : decide ((R.length : Int) < 2) = false := by simp; omega
    clear hrow hc hs hx hy
    generalize R.length = n at *
    by_cases h3 : x * 256 + y + 2 ≤ n
    · rw [HF.out, if_pos h3]
      have q1 : decide ((n : Int) < 2 + ((x : Int) * 256 + (y : Int))) = false := by simp; omega
      go_enter Try.func20, Try.ntmps20
      go_wp2_with fail
      refine HL.out.mono ?_
      rintro e w' ⟨rfl, rfl⟩
      go_wp2_with fail
      go_quiet (fail)
      go_wp2
      go_ret
      exact ⟨by go_num, below_drewN _ _⟩
    · rw [HF.out, if_neg h3]
      have q1 : (n : Int) < 2 + ((x : Int) * 256 + (y : Int)) := by omega
      go_enter Try.func20, Try.ntmps20
      go_wp2_with fail
      refine HL.out.mono ?_
      rintro e w' ⟨rfl, rfl⟩
      go_wp2_with fail
      go_quiet (fail)
      go_wp2
      go_ret
      exact ⟨rfl, below_drewN _ _⟩
end Go.Proofs.Ytnhjbhmhloeaeaa
