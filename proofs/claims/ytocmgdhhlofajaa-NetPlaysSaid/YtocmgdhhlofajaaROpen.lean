/-
  What the document's Open leaves and answers.
-/
import Derived.Test.YtocmgdhhlofajaaOpen
namespace Go.Proofs.Ytocmgdhhlofajaa
open Go.RowKit
set_option maxRecDepth 100000 in
set_option maxHeartbeats 8000000 in
theorem ropen_yes (x y : Int) (S : Nat → Prop) (b : Nat) (s : St) (w : World) (h : Rn S b s w) (hB : s.its.length ≤ 1000000) (hP : s.puts ≤ 1000000) (hO : s.opens ≤ 1000000) (g : noOpen s x y = false) :
    Calls Try.prog 27 #[ptr b, .int .i64 x, .int .i64 y] w fun e w' => e = .returned (.tuple #[.int .i64 ((s.opens + 1 : Nat) : Int), .bool true]) ∧ Rl S b (openS s x y) w w' := by
  have hop : openS s x y = add (linkS s x y) ⟨0, 2, x, y, ((s.opens + 1 : Nat) : Int), ⟨#[]⟩⟩ := by unfold openS; rw [g]; rfl
  rw [hop]
  unfold noOpen at g
  simp only [Bool.or_eq_false_iff, decide_eq_false_iff_not] at g
  obtain ⟨⟨g1, g2⟩, g3⟩ := g
  have H := Lib.hid h
  obtain ⟨vi, vl, hp⟩ := h
  have c0 := hp.c0
  obtain ⟨a', cap', rfl, _, _⟩ := hp.ri.shape
  have q3 : decide ((1024 : Int) ≤ (s.its.length : Int)) = false := by unfold full at g2; simp at g2 ⊢; omega
  generalize s.its.length = m at c0 q3
  have c1 := hp.c1
  have c3 := hp.c3
  have f3 := hp.fz 3 (by omega)
  have hbl := hp.lt
  obtain ⟨a, cap, rfl, _, _⟩ := hp.rl.shape
  obtain ⟨n, hn⟩ : ∃ n, n = s.lks.length := ⟨_, rfl⟩
  rw [← hn] at c1 g1
  have HP := Lib.hid hp
  rw [← hn] at HP
  have HN := Lib.hid hn
  obtain ⟨p, hpp⟩ : ∃ p, p = s.opens := ⟨_, rfl⟩
  rw [← hpp] at c3 hO
  have HPP := Lib.hid hpp
  have HBI := Lib.hid hB
  have HPI := Lib.hid hP
  have q1 : decide ((256 : Int) ≤ (n : Int)) = false := by simp; omega
  have q2 : (x == y) = false := by simpa using g3
  have hnb : n ≤ 256 := by omega
  clear hp hn hpp g1 g2 g3 hop hB hP
  obtain ⟨i0, hi, hz0, hz1, hz2⟩ := info_parts info69
  go_enter Try.func27, Try.ntmps27
  go_wp2
  have hb3 : Below w.heap.size (w.setCell ⟨b, 3, none⟩ (.int .i64 ((p : Int) + 1))) (w.setCell ⟨b, 3, none⟩ (.int .i64 ((p : Int) + 1))) := Below.refl _ _
  have hp2 := HP.out.opens (p + 1)
  rw [Int.natCast_add] at hp2
  replace hp2 : PV 30 52 69 S b ⟨s.its, s.lks, s.puts, p + 1⟩ (.slice a' s.its.length cap') (.slice a n cap) (w.setCell ⟨b, 3, none⟩ (.int .i64 ((p : Int) + 1))) := hp2
  obtain ⟨w3, hw3⟩ : ∃ w3, w3 = (w.setCell ⟨b, 3, none⟩ (.int .i64 ((p : Int) + 1))) := ⟨_, rfl⟩
  rw [← hw3]
  have hb3 : Below w.heap.size (w.setCell ⟨b, 3, none⟩ (.int .i64 ((p : Int) + 1))) w3 := by
    rw [hw3]
    exact Below.refl _ _
  have hp3 : PV 30 52 69 S b ⟨s.its, s.lks, s.puts, p + 1⟩ (.slice a' s.its.length cap') (.slice a n cap) w3 := by rw [hw3]; exact hp2
  have e1 := hp3.c1
  have e3 : w3.cell? ⟨b, 3, none⟩ = some (.int .i64 ((p : Int) + 1)) := hp3.c3
  have hown3 : Hid (w3.ownsRow 0 69 3 (.slice a n cap) n (cs lc s.lks)) := Lib.hid (by have := hp3.rl; unfold Rw at this; rw [← HN.out] at this; exact this)
  have hbl3 : b < w3.heap.size := hp3.lt
  have hbn : b ≠ w3.heap.size := by omega
  have HB3 := Lib.hid hb3
  clear hw3 hb3 hp2 hp3 c0 c1 c3 f3
  go_region_law ((refine step_append_lies _ rfl (.tmp 38) (.tmp 46) 28 rfl 0 69 i0 (.agg #[.int .i64 0, .int .i64 0, .int .i64 0]) 3 24 Try.underlying28 hi hz0 hz1 hz2 rfl (by decide) (.slice a n cap) n _ (by simp [Act.eval]) (hown3.out.alloc _).drew ⟨w3.heap.size, 0, none⟩ 1 1 [.int .i64 ((p : Int) + 1), .int .i64 x, .int .i64 y] (by simp [Act.eval]) rfl (fun j u hj => World.news_of_block (cs := #[.int .i64 ((p : Int) + 1), .int .i64 x, .int .i64 y]) (t := 69) (fr := (0, 0)) (heap_alloc_new w3 _) j u hj) (by simp [Value.oneCell']) (by decide) (by unfold maxLen; omega) (by omega) (Nat.zero_le _) _ rfl ?_; intro g1 cap1 w6 hown6 hg6 hat6 hlt6; have A := Lib.hid (link_lawP HP.out HPP.out HN.out HB3.out hown6 hg6 hat6); have d0' := A.out.1; have e0' := A.out.2.1; have e3' := A.out.2.2.2; clear hown6 hg6 hat6 hlt6))
  all_goals
    clear e1 e3
    go_wp2_with fail
    refine (radd_any ⟨0, 2, x, y, (p : Int) + 1, ⟨#[]⟩⟩ _ b _ _ A.out.2.2.1.1 HBI.out HPI.out).mono ?_
    rintro e w7 ⟨⟨v, rfl⟩, hl⟩
    have HL := Lib.hid (A.out.2.2.1.trans hl)
    obtain ⟨vi7, vl7, hp7⟩ := hl.1
    have c7 : w7.cell? ⟨b, 3, none⟩ = some (.int .i64 ((p + 1 : Nat) : Int)) := by have := hp7.c3; rw [HPP.out]; exact this
    clear hl hp7 d0' e0' e3'
    go_wp2
    go_ret2
    exact ⟨by rw [HPP.out]; rfl, by have := HL.out; rw [HPP.out] at this; exact this⟩
set_option maxRecDepth 100000 in
set_option maxHeartbeats 8000000 in
theorem ropen_no (x y : Int) (S : Nat → Prop) (b : Nat) (s : St) (w : World) (h : Rn S b s w) (g : noOpen s x y = true) :
    Calls Try.prog 27 #[ptr b, .int .i64 x, .int .i64 y] w fun e w' => e = .returned (.tuple #[.int .i64 0, .bool false]) ∧ w = w' := by
  obtain ⟨vi, vl, hp⟩ := h
  have c0 := hp.c0
  have c1 := hp.c1
  obtain ⟨a, cap, rfl, _, _⟩ := hp.rl.shape
  obtain ⟨a', cap', rfl, _, _⟩ := hp.ri.shape
  unfold noOpen full at g
  generalize s.lks.length = n at *
  generalize s.its.length = m at *
  clear hp
  by_cases g1 : 256 ≤ n
  · have q1 : (256 : Int) ≤ (n : Int) := by omega
    clear g
    go_enter Try.func27, Try.ntmps27
    go_wp2
    go_ret2
    exact ⟨rfl, rfl⟩
  · have q1 : decide ((256 : Int) ≤ (n : Int)) = false := by simp; omega
    by_cases g2 : 1024 ≤ m
    · have q2 : (1024 : Int) ≤ (m : Int) := by omega
      clear g
      go_enter Try.func27, Try.ntmps27
      go_wp2
      go_ret2
      exact ⟨rfl, rfl⟩
    · have q2 : decide ((1024 : Int) ≤ (m : Int)) = false := by simp; omega
      have e : x = y := by simpa [g1, g2] using g
      subst e
      clear g
      go_enter Try.func27, Try.ntmps27
      go_wp2
      go_ret2
      exact ⟨rfl, rfl⟩
end Go.Proofs.Ytocmgdhhlofajaa
