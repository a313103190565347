/-
  What the Open of the program and of the document leave and answer.
-/
import Derived.Test.YtocmgdhhlofajaaSend
namespace Go.Proofs.Ytocmgdhhlofajaa
open Go.RowKit
theorem info64 : (Try.prog.info? 64).map (fun i => (i.zero, i.size, i.bytes)) = some (some (.agg #[.int .i64 0, .int .i64 0, .int .i64 0]), 3, 24) := by kernel_rfl
theorem info69 : (Try.prog.info? 69).map (fun i => (i.zero, i.size, i.bytes)) = some (some (.agg #[.int .i64 0, .int .i64 0, .int .i64 0]), 3, 24) := by kernel_rfl
/-- One more connection. -/
def linkS (s : St) (a b : Int) : St := ⟨s.its, s.lks ++ [⟨((s.opens + 1 : Nat) : Int), a, b⟩], s.puts, s.opens + 1⟩
/-- Behind the append: what the walk wants, and what is left. -/
theorem link_law {T ti tl : TypeId} {S : Nat → Prop} {b n : Nat} {s : St} {x y : Int} {vi vl : Value} {w wa w1 : World} {g1 cap1 : Nat}
    (h : PV T ti tl S b s vi vl w) (hn : n = s.lks.length)
    (hwa : Below w.heap.size (w.setCell ⟨b, 3, none⟩ (.int .i64 ((s.opens + 1 : Nat) : Int))) wa)
    (hown : w1.ownsRow 0 tl 3 (.slice (some ⟨g1, 0, none⟩) (n + 1) cap1) (n + 1) (cs lc s.lks ++ lc ⟨((s.opens + 1 : Nat) : Int), x, y⟩)) (hg : wa.grownBy w1 vl.ownBlock) (hat : vl.ownBlock = some g1 ∨ g1 = wa.heap.size) :
    w1.cell? ⟨b, 1, none⟩ = some vl ∧ w1.frozen? ⟨b, 1, none⟩ = false ∧ Lft T ti tl S b (linkS s x y) w (w1.setCell ⟨b, 1, none⟩ (.slice (some ⟨g1, 0, none⟩) (n + 1) cap1)) ∧ w1.cell? ⟨b, 3, none⟩ = some (.int .i64 ((s.opens + 1 : Nat) : Int)) := by
  subst hn
  have h1 := h.opens (s.opens + 1)
  have h2 := h1.below (w' := wa) (by rw [World.size_setCell]; exact hwa)
  have hszA := hwa.size
  rw [World.size_setCell] at hszA
  have hr : Rw lc tl 3 w1 (.slice (some ⟨g1, 0, none⟩) (s.lks.length + 1) cap1) (s.lks ++ [⟨((s.opens + 1 : Nat) : Int), x, y⟩]) := by
    unfold Rw
    rw [List.length_append, cs_append, cs_one]
    exact hown
  have h3 := h2.cell_l hg hr (fun k hk => by
    simp only [Value.ownBlock, Option.some.injEq] at hk
    subst hk
    rcases hat with e | e
    · exact .inl (h.sl _ e)
    · exact .inr (Nat.le_of_eq e.symm))
  have hb : some b ≠ vl.ownBlock := fun e => h2.rl.not_cells h2.blk h2.ne.2.1 e.symm
  have hk := (hg.block b h2.lt hb).trans h2.blk
  refine ⟨by simp [World.cell?, hk], by simp [World.frozen?, hk], ⟨⟨_, _, h3.mono fun k hk => ?_⟩, ?_⟩, by simp [World.cell?, hk]⟩
  · rcases hk with hk | hk
    · exact .inl hk
    · exact .inr (by omega)
  · exact ((((Tr.refl S w).setCell (i := 3) (.inl h.own) _).trans (S' := S) (Tr.of_below (by rw [World.size_setCell]; exact hwa)) (fun _ => .inl)).grown hg (fun k hk => .inl (h.sl k hk))).setCell (.inl h.own) _
theorem link_lawP {T ti tl : TypeId} {S : Nat → Prop} {b n p : Nat} {s : St} {x y : Int} {vi : Value} {a : Option Addr} {cap : Nat} {w w3 w1 : World} {g1 cap1 : Nat} {o : Obj}
    (h : PV T ti tl S b s vi (.slice a n cap) w) (hp : p = s.opens) (hn : n = s.lks.length)
    (hw3 : Below w.heap.size (w.setCell ⟨b, 3, none⟩ (.int .i64 ((p : Int) + 1))) w3)
    (hown : w1.ownsRow 0 tl 3 (.slice (some ⟨g1, 0, none⟩) (n + 1) cap1) (n + 1) (cs lc s.lks ++ [.int .i64 ((p : Int) + 1), .int .i64 x, .int .i64 y])) (hg : (w3.alloc o).drew.grownBy w1 (Value.slice a n cap).ownBlock) (hat : (Value.slice a n cap).ownBlock = some g1 ∨ g1 = (w3.alloc o).drew.heap.size) :
    w1.cell? ⟨b, 1, none⟩ = some (.slice a n cap) ∧ w1.frozen? ⟨b, 1, none⟩ = false ∧ Lft T ti tl S b (linkS s x y) w (w1.setCell ⟨b, 1, none⟩ (.slice (some ⟨g1, 0, none⟩) (n + 1) cap1)) ∧ w1.cell? ⟨b, 3, none⟩ = some (.int .i64 ((p : Int) + 1)) := by
  subst hp
  have e : ((s.opens : Int) + 1) = ((s.opens + 1 : Nat) : Int) := by simp
  rw [e] at hw3 hown ⊢
  have hsz := hw3.size
  rw [World.size_setCell] at hsz
  exact link_law h hn (hw3.trans ((((Below.refl _ w3).alloc (Nat.le_refl _) o).drew).mono hsz)) hown hg hat
set_option maxRecDepth 100000 in
set_option maxHeartbeats 8000000 in
theorem open_yes (x y : Int) (S : Nat → Prop) (b : Nat) (s : St) (w : World) (h : Pn S b s w) (hB : s.its.length ≤ 1000000) (hP : s.puts ≤ 1000000) (hO : s.opens ≤ 1000000) (g : noOpen s x y = false) :
    Calls Try.prog 19 #[ptr b, .int .i64 x, .int .i64 y] w fun e w' => e = .returned (.tuple #[.int .i64 ((s.opens + 1 : Nat) : Int), .bool true]) ∧ Pl S b (openS s x y) w w' := by
  have hop : openS s x y = add (linkS s x y) ⟨0, 2, x, y, ((s.opens + 1 : Nat) : Int), ⟨#[]⟩⟩ := by unfold openS; rw [g]; rfl
  rw [hop]
  unfold noOpen at g
  simp only [Bool.or_eq_false_iff, decide_eq_false_iff_not] at g
  obtain ⟨⟨g1, g2⟩, g3⟩ := g
  have F := Lib.hid (full_any S b s w h)
  rw [g2] at F
  have H := Lib.hid h
  obtain ⟨vi, vl, hp⟩ := h
  have c1 := hp.c1
  have c3 := hp.c3
  have f3 := hp.fz 3 (by omega)
  have hbl := hp.lt
  obtain ⟨a, cap, rfl, _, _⟩ := hp.rl.shape
  obtain ⟨n, hn⟩ : ∃ n, n = s.lks.length := ⟨_, rfl⟩
  rw [← hn] at c1 g1
  have HP := Lib.hid hp
  rw [← hn] at HP
  have HN := Lib.hid hn
  obtain ⟨p, hpp⟩ : ∃ p, p = s.opens := ⟨_, rfl⟩
  rw [← hpp] at c3 hO
  have HPP := Lib.hid hpp
  have HBI := Lib.hid hB
  have HPI := Lib.hid hP
  have q1 : decide ((256 : Int) ≤ (n : Int)) = false := by simp; omega
  have q2 : (x == y) = false := by simpa using g3
  have hnb : n ≤ 256 := by omega
  clear hp hn hpp g1 g2 g3 hop hB hP
  obtain ⟨i0, hi, hz0, hz1, hz2⟩ := info_parts info64
  go_enter Try.func19, Try.ntmps19
  go_wp2_with fail
  refine F.out.mono ?_
  rintro e w' ⟨rfl, rfl⟩
  go_wp2
  have hb3 : Below w.heap.size (w.setCell ⟨b, 3, none⟩ (.int .i64 ((p : Int) + 1))) (w.setCell ⟨b, 3, none⟩ (.int .i64 ((p : Int) + 1))) := Below.refl _ _
  have hp2 := HP.out.opens (p + 1)
  rw [Int.natCast_add] at hp2
  replace hp2 : PV 61 74 64 S b ⟨s.its, s.lks, s.puts, p + 1⟩ vi (.slice a n cap) (w.setCell ⟨b, 3, none⟩ (.int .i64 ((p : Int) + 1))) := hp2
  obtain ⟨w3, hw3⟩ : ∃ w3, w3 = (w.setCell ⟨b, 3, none⟩ (.int .i64 ((p : Int) + 1))) := ⟨_, rfl⟩
  rw [← hw3]
  have hb3 : Below w.heap.size (w.setCell ⟨b, 3, none⟩ (.int .i64 ((p : Int) + 1))) w3 := by
    rw [hw3]
    exact Below.refl _ _
  have hp3 : PV 61 74 64 S b ⟨s.its, s.lks, s.puts, p + 1⟩ vi (.slice a n cap) w3 := by rw [hw3]; exact hp2
  have e1 := hp3.c1
  have e3 : w3.cell? ⟨b, 3, none⟩ = some (.int .i64 ((p : Int) + 1)) := hp3.c3
  have hown3 : Hid (w3.ownsRow 0 64 3 (.slice a n cap) n (cs lc s.lks)) := Lib.hid (by have := hp3.rl; unfold Rw at this; rw [← HN.out] at this; exact this)
  have hbl3 : b < w3.heap.size := hp3.lt
  have hbn : b ≠ w3.heap.size := by omega
  have HB3 := Lib.hid hb3
  clear hw3 hb3 hp2 hp3 c1 c3 f3
  go_region_law ((refine step_append_lies _ rfl (.tmp 38) (.tmp 47) 59 rfl 0 64 i0 (.agg #[.int .i64 0, .int .i64 0, .int .i64 0]) 3 24 Try.underlying59 hi hz0 hz1 hz2 rfl (by decide) (.slice a n cap) n _ (by simp [Act.eval]) (hown3.out.alloc _).drew ⟨w3.heap.size, 0, none⟩ 1 1 [.int .i64 ((p : Int) + 1), .int .i64 x, .int .i64 y] (by simp [Act.eval]) rfl (fun j u hj => World.news_of_block (cs := #[.int .i64 ((p : Int) + 1), .int .i64 x, .int .i64 y]) (t := 64) (fr := (0, 0)) (heap_alloc_new w3 _) j u hj) (by simp [Value.oneCell']) (by decide) (by unfold maxLen; omega) (by omega) (Nat.zero_le _) _ rfl ?_; intro g1 cap1 w6 hown6 hg6 hat6 hlt6; have A := Lib.hid (link_lawP HP.out HPP.out HN.out HB3.out hown6 hg6 hat6); have d0' := A.out.1; have e0' := A.out.2.1; have e3' := A.out.2.2.2; clear hown6 hg6 hat6 hlt6))
  all_goals
    clear e1 e3
    go_wp2_with fail
    refine (put_any ⟨0, 2, x, y, (p : Int) + 1, ⟨#[]⟩⟩ _ b _ _ A.out.2.2.1.1 HBI.out HPI.out).mono ?_
    rintro e w7 ⟨⟨v, rfl⟩, hl⟩
    have HL := Lib.hid (A.out.2.2.1.trans hl)
    obtain ⟨vi7, vl7, hp7⟩ := hl.1
    have c7 : w7.cell? ⟨b, 3, none⟩ = some (.int .i64 ((p + 1 : Nat) : Int)) := by have := hp7.c3; rw [HPP.out]; exact this
    clear hl hp7 d0' e0' e3'
    go_wp2
    go_ret2
    exact ⟨by rw [HPP.out]; rfl, by have := HL.out; rw [HPP.out] at this; exact this⟩
set_option maxRecDepth 100000 in
set_option maxHeartbeats 8000000 in
theorem open_no (x y : Int) (S : Nat → Prop) (b : Nat) (s : St) (w : World) (h : Pn S b s w) (g : noOpen s x y = true) :
    Calls Try.prog 19 #[ptr b, .int .i64 x, .int .i64 y] w fun e w' => e = .returned (.tuple #[.int .i64 0, .bool false]) ∧ w = w' := by
  have F := Lib.hid (full_any S b s w h)
  obtain ⟨vi, vl, hp⟩ := h
  have c1 := hp.c1
  obtain ⟨a, cap, rfl, _, _⟩ := hp.rl.shape
  unfold noOpen at g
  generalize s.lks.length = n at *
  generalize full s = fb at *
  clear hp
  by_cases g1 : 256 ≤ n
  · have q1 : (256 : Int) ≤ (n : Int) := by omega
    clear g
    go_enter Try.func19, Try.ntmps19
    go_wp2
    go_ret2
    exact ⟨rfl, rfl⟩
  · have q1 : decide ((256 : Int) ≤ (n : Int)) = false := by simp; omega
    cases fb with
    | true =>
      clear g
      go_enter Try.func19, Try.ntmps19
      go_wp2_with fail
      refine F.out.mono ?_
      rintro e w' ⟨rfl, rfl⟩
      go_wp2
      go_ret2
      exact ⟨rfl, rfl⟩
    | false =>
      have e : x = y := by simpa [g1] using g
      subst e
      clear g
      go_enter Try.func19, Try.ntmps19
      go_wp2_with fail
      refine F.out.mono ?_
      rintro e w' ⟨rfl, rfl⟩
      go_wp2
      go_ret2
      exact ⟨rfl, rfl⟩
end Go.Proofs.Ytocmgdhhlofajaa
