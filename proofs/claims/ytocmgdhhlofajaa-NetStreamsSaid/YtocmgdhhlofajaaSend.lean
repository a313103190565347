/-
  What Send, Write and closed leave and answer, the program's and the document's.
-/
import Derived.Test.YtocmgdhhlofajaaRFind
namespace Go.Proofs.Ytocmgdhhlofajaa
open Go.RowKit
set_option maxRecDepth 100000 in
set_option maxHeartbeats 4000000 in
theorem send_any (f t : Int) (x : ByteArray) (S : Nat → Prop) (b : Nat) (s : St) (w : World) (h : Pn S b s w) (hB : s.its.length ≤ 1000000) (hP : s.puts ≤ 1000000) :
    Calls Try.prog 20 #[ptr b, .int .i64 f, .int .i64 t, .string x] w fun e w' => e = .returned (.bool (!full s)) ∧ Pl S b (sendS s f t x) w w' := by
  have F := Lib.hid (full_any S b s w h)
  have H := Lib.hid h
  unfold sendS
  clear h
  cases hf : full s with
  | true =>
    rw [hf] at F
    go_enter Try.func20, Try.ntmps20
    go_wp2_with fail
    refine F.out.mono ?_
    rintro e w' ⟨rfl, rfl⟩
    go_wp2
    go_ret
    exact ⟨rfl, Lft.refl H.out⟩
  | false =>
    rw [hf] at F
    go_enter Try.func20, Try.ntmps20
    go_wp2_with fail
    refine F.out.mono ?_
    rintro e w' ⟨rfl, rfl⟩
    go_wp2_with fail
    refine (fresh_any x w).mono ?_
    rintro e w1 ⟨rfl, hb1⟩
    have HB1 := Lib.hid hb1
    clear hb1
    go_wp2_with fail
    refine (put_any (sendI f t x) S b s w1 (H.out.below HB1.out) hB hP).mono ?_
    rintro e w2 ⟨⟨v, rfl⟩, hl⟩
    have HL := Lib.hid hl
    clear hl
    go_wp2
    go_ret
    exact ⟨rfl, HL.out.pre HB1.out⟩
set_option maxRecDepth 100000 in
set_option maxHeartbeats 4000000 in
theorem write_any (c f : Int) (x : ByteArray) (S : Nat → Prop) (b : Nat) (s : St) (w : World) (h : Pn S b s w) (hB : s.its.length ≤ 1000000) (hP : s.puts ≤ 1000000) (hL : s.lks.length ≤ 1000000) :
    Calls Try.prog 22 #[ptr b, .int .i64 c, .int .i64 f, .string x] w fun e w' => e = .returned (.bool (writeB s c f)) ∧ Pl S b (writeS s c f x) w w' := by
  have P := Lib.hid (peer_any c f S b s w h hL)
  have H := Lib.hid h
  unfold writeB writeS
  clear h
  generalize peerS s c f = o at *
  cases o with
  | none =>
    go_enter Try.func22, Try.ntmps22
    go_wp2_with fail
    refine P.out.mono ?_
    rintro e w1 ⟨rfl, hb1⟩
    have HB1 := Lib.hid hb1
    clear hb1
    go_wp2
    go_ret
    exact ⟨rfl, (Lft.refl H.out).post HB1.out⟩
  | some t =>
    cases hf : full s with
    | true =>
      go_enter Try.func22, Try.ntmps22
      go_wp2_with fail
      refine P.out.mono ?_
      rintro e w1 ⟨rfl, hb1⟩
      have HB1 := Lib.hid hb1
      have F := Lib.hid (full_any S b s w1 (H.out.below hb1))
      rw [hf] at F
      clear hb1
      go_wp2_with fail
      refine F.out.mono ?_
      rintro e w' ⟨rfl, rfl⟩
      go_wp2
      go_ret
      exact ⟨rfl, (Lft.refl H.out).post HB1.out⟩
    | false =>
      go_enter Try.func22, Try.ntmps22
      go_wp2_with fail
      refine P.out.mono ?_
      rintro e w1 ⟨rfl, hb1⟩
      have HB1 := Lib.hid hb1
      have F := Lib.hid (full_any S b s w1 (H.out.below hb1))
      rw [hf] at F
      clear hb1
      go_wp2_with fail
      refine F.out.mono ?_
      rintro e w' ⟨rfl, rfl⟩
      go_wp2_with fail
      refine (fresh_any x w1).mono ?_
      rintro e w2 ⟨rfl, hb2⟩
      have HB2 := Lib.hid (HB1.out.trans (hb2.mono HB1.out.size))
      clear hb2
      go_wp2_with fail
      refine (put_any (writeI c f t x) S b s w2 (H.out.below HB2.out) hB hP).mono ?_
      rintro e w3 ⟨⟨v, rfl⟩, hl⟩
      have HL := Lib.hid hl
      clear hl
      go_wp2
      go_ret
      exact ⟨rfl, HL.out.pre HB2.out⟩
/-- The end of a connection is told. -/
def tellS (s : St) (l : Lk) (n : Int) : St := match otherL l n with
  | none => s
  | some t => add s (closedI n t l.num)
set_option maxRecDepth 100000 in
set_option maxHeartbeats 4000000 in
theorem closed_any (l : Lk) (n : Int) (S : Nat → Prop) (b : Nat) (s : St) (w : World) (h : Pn S b s w) (hB : s.its.length ≤ 1000000) (hP : s.puts ≤ 1000000) :
    Calls Try.prog 47 #[ptr b, la l, .int .i64 n] w fun e w' => e = .returned (.bool (otherL l n).isSome) ∧ Pl S b (tellS s l n) w w' := by
  have hb0 : Below w.heap.size w (w.alloc (.cells #[.int .i64 l.num, .int .i64 l.a, .int .i64 l.b] 64)) := (Below.refl _ w).alloc (Nat.le_refl _) _
  obtain ⟨w1, hw1⟩ : ∃ w1, w1 = w.alloc (.cells #[.int .i64 l.num, .int .i64 l.a, .int .i64 l.b] 64) := ⟨_, rfl⟩
  have hce := ce_new w #[.int .i64 l.num, .int .i64 l.a, .int .i64 l.b] 64
  rw [← hw1] at hb0 hce
  have HB0 := Lib.hid hb0
  have HCE := Lib.hid hce
  have O := other_any l n w1
  have H := Lib.hid h
  unfold tellS
  generalize otherL l n = o at *
  have HO := Lib.hid O
  obtain ⟨c0, c1, c2⟩ := c3 hce
  clear h hb0 O hce
  cases o with
  | none =>
    go_enter Try.func47, Try.ntmps47
    go_upto_region 1 with fail
    rw [← hw1]
    obtain ⟨B0, hB0⟩ : ∃ B0, B0 = w.heap.size := ⟨_, rfl⟩
    rw [← hB0] at c0 c1 c2 ⊢
    clear hB0 hw1
    go_wp2_with fail
    refine HO.out.mono ?_
    rintro e w2 ⟨rfl, hb2⟩
    have HB2 := Lib.hid (HB0.out.trans (hb2.mono HB0.out.size))
    clear hb2
    go_wp2
    go_ret
    exact ⟨rfl, (Lft.refl H.out).post HB2.out⟩
  | some t =>
    go_enter Try.func47, Try.ntmps47
    go_upto_region 1 with fail
    rw [← hw1]
    obtain ⟨B0, hB0⟩ : ∃ B0, B0 = w.heap.size := ⟨_, rfl⟩
    rw [← hB0] at c0 c1 c2 HCE ⊢
    clear hB0 hw1
    go_wp2_with fail
    refine HO.out.mono ?_
    rintro e w2 ⟨rfl, hb2⟩
    have HB2 := Lib.hid (HB0.out.trans (hb2.mono HB0.out.size))
    have d0 : w2.cell? ⟨B0, 0, none⟩ = some (.int .i64 l.num) := (hb2.cell (p := ⟨B0, 0, none⟩) HCE.out.lt).trans c0
    clear hb2 c0 c1 c2
    go_wp2_with fail
    refine (put_any (closedI n t l.num) S b s w2 (H.out.below HB2.out) hB hP).mono ?_
    rintro e w3 ⟨⟨v, rfl⟩, hl⟩
    have HL := Lib.hid hl
    clear hl d0
    go_wp2
    go_ret
    exact ⟨rfl, HL.out.pre HB2.out⟩
set_option maxRecDepth 100000 in
set_option maxHeartbeats 4000000 in
theorem rsend_any (f t : Int) (x : ByteArray) (S : Nat → Prop) (b : Nat) (s : St) (w : World) (h : Rn S b s w) (hB : s.its.length ≤ 1000000) (hP : s.puts ≤ 1000000) :
    Calls Try.prog 34 #[ptr b, .int .i64 f, .int .i64 t, .string x] w fun e w' => e = .returned (.bool (!full s)) ∧ Rl S b (sendS s f t x) w w' := by
  have H := Lib.hid h
  obtain ⟨vi, vl, hp⟩ := h
  have c0 := hp.c0
  obtain ⟨a, cap, rfl, _⟩ := hp.ri.shape
  have hf : full s = decide ((1024 : Int) ≤ (s.its.length : Int)) := by unfold full; congr 1; simp only [eq_iff_iff]; omega
  have HF := Lib.hid hf
  unfold sendS
  obtain ⟨n, hn⟩ : ∃ n, n = s.its.length := ⟨_, rfl⟩
  rw [← hn] at c0 HF
  clear hp hf
  by_cases g : (1024 : Int) ≤ (n : Int)
  · have q : decide ((1024 : Int) ≤ (n : Int)) = true := by simpa using g
    rw [HF.out, q]
    clear hn
    go_enter Try.func34, Try.ntmps34
    go_wp2
    go_ret
    exact ⟨rfl, Lft.refl H.out⟩
  · have q : decide ((1024 : Int) ≤ (n : Int)) = false := by simpa using g
    rw [HF.out, q]
    have hB' : n ≤ 1000000 := by omega
    have HN := Lib.hid hn
    clear hn
    go_enter Try.func34, Try.ntmps34
    go_wp2_with fail
    refine (radd_any (sendI f t x) S b s w H.out hB hP).mono ?_
    rintro e w2 ⟨⟨v, rfl⟩, hl⟩
    have HL := Lib.hid hl
    clear hl
    go_wp2
    go_ret
    exact ⟨rfl, HL.out⟩
set_option maxRecDepth 100000 in
set_option maxHeartbeats 4000000 in
theorem rwrite_any (c f : Int) (x : ByteArray) (S : Nat → Prop) (b : Nat) (s : St) (w : World) (h : Rn S b s w) (hB : s.its.length ≤ 1000000) (hP : s.puts ≤ 1000000) (hL : s.lks.length ≤ 1000000) :
    Calls Try.prog 28 #[ptr b, .int .i64 c, .int .i64 f, .string x] w fun e w' => e = .returned (.bool (writeB s c f)) ∧ Rl S b (writeS s c f x) w w' := by
  have P := Lib.hid (rpeer_any c f S b s w h hL)
  have H := Lib.hid h
  obtain ⟨vi, vl, hp⟩ := h
  have c0 := hp.c0
  obtain ⟨a, cap, rfl, _⟩ := hp.ri.shape
  have hf : full s = decide ((1024 : Int) ≤ (s.its.length : Int)) := by unfold full; congr 1; simp only [eq_iff_iff]; omega
  have HF := Lib.hid hf
  unfold writeB writeS
  obtain ⟨n, hn⟩ : ∃ n, n = s.its.length := ⟨_, rfl⟩
  rw [← hn] at c0 HF
  clear hp hf
  generalize peerS s c f = o at *
  cases o with
  | none =>
    clear hn
    go_enter Try.func28, Try.ntmps28
    go_wp2_with fail
    refine P.out.mono ?_
    rintro e w1 ⟨rfl, rfl⟩
    go_wp2
    go_ret
    exact ⟨rfl, Lft.refl H.out⟩
  | some t =>
    by_cases g : (1024 : Int) ≤ (n : Int)
    · have q : decide ((1024 : Int) ≤ (n : Int)) = true := by simpa using g
      rw [HF.out, q]
      clear hn
      go_enter Try.func28, Try.ntmps28
      go_wp2_with fail
      refine P.out.mono ?_
      rintro e w1 ⟨rfl, rfl⟩
      go_wp2
      go_ret
      exact ⟨rfl, Lft.refl H.out⟩
    · have q : decide ((1024 : Int) ≤ (n : Int)) = false := by simpa using g
      rw [HF.out, q]
      have HN := Lib.hid hn
      clear hn
      go_enter Try.func28, Try.ntmps28
      go_wp2_with fail
      refine P.out.mono ?_
      rintro e w1 ⟨rfl, rfl⟩
      go_wp2_with fail
      refine (radd_any (writeI c f t x) S b s w H.out hB hP).mono ?_
      rintro e w3 ⟨⟨v, rfl⟩, hl⟩
      have HL := Lib.hid hl
      clear hl
      go_wp2
      go_ret
      exact ⟨rfl, HL.out⟩
end Go.Proofs.Ytocmgdhhlofajaa
