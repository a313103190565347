/-
  What the document's add leaves; all else is as it was.
-/
import Derived.Test.YtocmgdhhlofajaaPrims
namespace Go.Proofs.Ytocmgdhhlofajaa
open Go.RowKit
theorem rput_lawP {S : Nat → Prop} {b n p : Nat} {s : St} {x : It} {vl : Value} {a : Option Addr} {cap : Nat} {w w3 w1 : World} {g1 cap1 : Nat} {o : Obj}
    (h : PV 30 52 69 S b s (.slice a n cap) vl w) (hp : p = s.puts) (hn : n = s.its.length)
    (hw3 : Below w.heap.size (w.setCell ⟨b, 2, none⟩ (.int .i64 ((p : Int) + 1))) w3)
    (hown : w1.ownsRow 0 52 6 (.slice (some ⟨g1, 0, none⟩) (n + 1) cap1) (n + 1) (cs ic s.its ++ [.int .i64 ((p : Int) + 1), .int .i64 x.kind, .int .i64 x.frm, .int .i64 x.dst, .int .i64 x.conn, .string x.body])) (hg : (w3.alloc o).drew.grownBy w1 (Value.slice a n cap).ownBlock) (hat : (Value.slice a n cap).ownBlock = some g1 ∨ g1 = (w3.alloc o).drew.heap.size) :
    w1.cell? ⟨b, 0, none⟩ = some (.slice a n cap) ∧ w1.frozen? ⟨b, 0, none⟩ = false ∧ Rl S b (add s x) w (w1.setCell ⟨b, 0, none⟩ (.slice (some ⟨g1, 0, none⟩) (n + 1) cap1)) := by
  subst hp
  have e : ((s.puts : Int) + 1) = ((s.puts + 1 : Nat) : Int) := by simp
  rw [e] at hw3 hown
  have hsz := hw3.size
  rw [World.size_setCell] at hsz
  exact put_law h (Below.refl _ _) hn (hw3.trans ((((Below.refl _ w3).alloc (Nat.le_refl _) o).drew).mono hsz)) hown hg hat
set_option maxRecDepth 100000 in
set_option maxHeartbeats 4000000 in
theorem radd_any (x : It) (S : Nat → Prop) (b : Nat) (s : St) (w : World) (h : Rn S b s w) (hB : s.its.length ≤ 1000000) (hP : s.puts ≤ 1000000) :
    Calls Try.prog 53 #[ptr b, ia x] w fun e w' => (∃ v, e = .returned v) ∧ Rl S b (add s x) w w' := by
  obtain ⟨vi, vl, hp⟩ := h
  have c0 := hp.c0
  have c2 := hp.c2
  have f2 := hp.fz 2 (by omega)
  have hbl := hp.lt
  obtain ⟨a, cap, rfl, _, _⟩ := hp.ri.shape
  obtain ⟨n, hn⟩ : ∃ n, n = s.its.length := ⟨_, rfl⟩
  have hri := hp.ri
  unfold Rw at hri
  rw [← hn] at c0 hri hB
  have HR := Lib.hid hri
  have HP := Lib.hid hp
  rw [← hn] at HP
  have HN := Lib.hid hn
  obtain ⟨p, hpp⟩ : ∃ p, p = s.puts := ⟨_, rfl⟩
  rw [← hpp] at c2 hP
  have HPP := Lib.hid hpp
  clear hp hn hpp hri
  obtain ⟨i0, hi, hz0, hz1, hz2⟩ := info_parts info52
  go_enter Try.func53, Try.ntmps53
  go_wp2
  obtain ⟨w3, hw3⟩ : ∃ w3, w3 = (w.setCell ⟨b, 2, none⟩ (.int .i64 ((p : Int) + 1))).alloc (.cells #[.int .i64 ((p : Int) + 1), .int .i64 x.kind, .int .i64 x.frm, .int .i64 x.dst, .int .i64 x.conn, .string x.body] 52) := ⟨_, rfl⟩
  rw [← hw3]
  have hb3 : Below w.heap.size (w.setCell ⟨b, 2, none⟩ (.int .i64 ((p : Int) + 1))) w3 := by
    rw [hw3]
    have := (Below.refl _ (w.setCell ⟨b, 2, none⟩ (.int .i64 ((p : Int) + 1)))).alloc (Nat.le_refl _) (.cells #[.int .i64 ((p : Int) + 1), .int .i64 x.kind, .int .i64 x.frm, .int .i64 x.dst, .int .i64 x.conn, .string x.body] 52)
    rw [World.size_setCell] at this
    exact this
  have hnew := World.news_of_block (cs := #[.int .i64 ((p : Int) + 1), .int .i64 x.kind, .int .i64 x.frm, .int .i64 x.dst, .int .i64 x.conn, .string x.body]) (t := 52) (fr := (0, 0)) (heap_alloc_new (w.setCell ⟨b, 2, none⟩ (.int .i64 ((p : Int) + 1))) _)
  rw [← hw3, World.size_setCell] at hnew
  have d0 : w3.cell? ⟨w.heap.size, 0, none⟩ = some (.int .i64 ((p : Int) + 1)) := hnew 0 _ rfl
  have d1 : w3.cell? ⟨w.heap.size, 1, none⟩ = some (.int .i64 x.kind) := hnew 1 _ rfl
  have d2 : w3.cell? ⟨w.heap.size, 2, none⟩ = some (.int .i64 x.frm) := hnew 2 _ rfl
  have d3 : w3.cell? ⟨w.heap.size, 3, none⟩ = some (.int .i64 x.dst) := hnew 3 _ rfl
  have d4 : w3.cell? ⟨w.heap.size, 4, none⟩ = some (.int .i64 x.conn) := hnew 4 _ rfl
  have d5 : w3.cell? ⟨w.heap.size, 5, none⟩ = some (.string x.body) := hnew 5 _ rfl
  have hp2 := HP.out.puts (p + 1)
  rw [Int.natCast_add] at hp2
  have hp3 := hp2.below (w' := w3) (by rw [World.size_setCell]; exact hb3)
  have e0 := hp3.c0
  have hown3 : Hid (w3.ownsRow 0 52 6 (.slice a n cap) n (cs ic s.its)) := Lib.hid (by have := hp3.ri; unfold Rw at this; rw [← HN.out] at this; exact this)
  have hsz3 := hb3.size
  rw [World.size_setCell] at hsz3
  have HB3 := Lib.hid hb3
  obtain ⟨B, hB'⟩ : ∃ B, B = w.heap.size := ⟨_, rfl⟩
  rw [← hB'] at d0 d1 d2 d3 d4 d5 ⊢
  have HBB := Lib.hid hB'
  have hbl3 : b < w3.heap.size := by omega
  have hbn : b ≠ w3.heap.size := by omega
  have hBn : B ≠ w3.heap.size := by have h : B < w3.heap.size := (World.block_lt_of_cell? w3 _ d0); omega
  clear hnew hw3 hb3 hp2 hp3 c0 c2 f2 hB' hsz3
  go_region_law ((refine step_append_lies _ rfl (.tmp 20) (.tmp 22) 27 rfl 0 52 i0 (.agg #[.int .i64 0, .int .i64 0, .int .i64 0, .int .i64 0, .int .i64 0, .string ⟨#[]⟩]) 6 56 Try.underlying27 hi hz0 hz1 hz2 rfl (by decide) (.slice a n cap) n _ (by simp [Act.eval]) (hown3.out.alloc _).drew ⟨w3.heap.size, 0, none⟩ 1 1 [.int .i64 ((p : Int) + 1), .int .i64 x.kind, .int .i64 x.frm, .int .i64 x.dst, .int .i64 x.conn, .string x.body] (by simp [Act.eval]) rfl (fun j u hj => World.news_of_block (cs := #[.int .i64 ((p : Int) + 1), .int .i64 x.kind, .int .i64 x.frm, .int .i64 x.dst, .int .i64 x.conn, .string x.body]) (t := 52) (fr := (0, 0)) (heap_alloc_new w3 _) j u hj) (by simp [Value.oneCell']) (by decide) (by unfold maxLen; omega) (by omega) (Nat.zero_le _) _ rfl ?_; intro g1 cap1 w6 hown6 hg6 hat6 hlt6; have A := Lib.hid (rput_lawP HP.out HPP.out HN.out HB3.out hown6 hg6 hat6); have d0' := A.out.1; have e0' := A.out.2.1; clear hown6 hg6 hat6 hlt6))
  all_goals
    go_wp2
    go_end0
    exact ⟨⟨_, rfl⟩, A.out.2.2⟩
end Go.Proofs.Ytocmgdhhlofajaa
