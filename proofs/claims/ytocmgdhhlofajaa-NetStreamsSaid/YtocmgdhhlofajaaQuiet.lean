/-
  A network without its connections: what put and closed leave; what the function that tells the ends of a node's connections leaves.
-/
import Derived.Test.YtocmgdhhlofajaaClose
namespace Go.Proofs.Ytocmgdhhlofajaa
open Go.RowKit
/-- A network in memory, but for its connections. -/
structure PQ (S : Nat → Prop) (b : Nat) (s : St) (vi vl : Value) (w : World) : Prop where
  blk : w.heap[b]? = some (.cells #[vi, vl, .int .i64 (s.puts : Int), .int .i64 (s.opens : Int)] 61 (0, 0))
  ri : Rw ic 74 6 w vi s.its
  si : ∀ k, vi.ownBlock = some k → S k
  own : S b
def Qn (S : Nat → Prop) (b : Nat) (s : St) (vl : Value) (w : World) : Prop := ∃ vi, PQ S b s vi vl w
def Ql (S : Nat → Prop) (b : Nat) (s : St) (vl : Value) (w w' : World) : Prop := Qn (andNew S w.heap.size) b s vl w' ∧ Tr S w w'
section
variable {S : Nat → Prop} {b : Nat} {s : St} {vi vl : Value} {w : World}
theorem PQ.lt (h : PQ S b s vi vl w) : b < w.heap.size := (Array.getElem?_eq_some_iff.1 h.blk).1
theorem PQ.tr {S2 : Nat → Prop} {w' : World} (h : PQ S b s vi vl w) (ht : Tr S2 w w') (hd : ∀ k, k < w.heap.size → S k → ¬ S2 k) : PQ S b s vi vl w' :=
  ⟨(ht.block b h.lt (hd _ h.lt h.own)).trans h.blk, h.ri.tr ht (fun k hk => hd k (h.ri.lt k hk) (h.si k hk)), h.si, h.own⟩
theorem PQ.mono {S' : Nat → Prop} (h : PQ S b s vi vl w) (hS : ∀ k, S k → S' k) : PQ S' b s vi vl w := ⟨h.blk, h.ri, fun k hk => hS k (h.si k hk), hS _ h.own⟩
theorem PQ.below {w' : World} (h : PQ S b s vi vl w) (hb : Below w.heap.size w w') : PQ S b s vi vl w' := h.tr (S2 := fun _ => False) (Tr.of_below hb) (fun _ _ _ h => h)
theorem PQ.c0 (h : PQ S b s vi vl w) : w.cell? ⟨b, 0, none⟩ = some vi := by simp [World.cell?, h.blk]
theorem PQ.c2 (h : PQ S b s vi vl w) : w.cell? ⟨b, 2, none⟩ = some (.int .i64 (s.puts : Int)) := by simp [World.cell?, h.blk]
theorem PQ.fz (h : PQ S b s vi vl w) (i : Nat) (hi : i < 4) : w.frozen? ⟨b, i, none⟩ = false := by
  rcases (by omega : i = 0 ∨ i = 1 ∨ i = 2 ∨ i = 3) with rfl | rfl | rfl | rfl <;> simp [World.frozen?, h.blk]
theorem PQ.cell_i (h : PQ S b s vi vl w) {w1 : World} {v' : Value} {X : List It} (hg : w.grownBy w1 vi.ownBlock) (hr : Rw ic 74 6 w1 v' X) (hloc : ∀ k, v'.ownBlock = some k → S k ∨ w.heap.size ≤ k) :
    PQ (andNew S w.heap.size) b ⟨X, s.lks, s.puts, s.opens⟩ v' vl (w1.setCell ⟨b, 0, none⟩ v') := by
  have hb : some b ≠ vi.ownBlock := fun e => h.ri.not_cells h.blk (by decide) e.symm
  have hk : w1.heap[b]? = _ := (hg.block b h.lt hb).trans h.blk
  have ht : Tr (· = b) w1 (w1.setCell ⟨b, 0, none⟩ v') := (Tr.refl (· = b) w1).setCell (.inl rfl) _
  exact ⟨heap_setCell_same w1 b 0 _ _ v' hk, hr.tr ht (fun k e hkb => hr.not_cells hk (by decide) (by rw [e, hkb])), hloc, .inl h.own⟩
theorem PQ.puts (h : PQ S b s vi vl w) (n : Nat) : PQ S b ⟨s.its, s.lks, n, s.opens⟩ vi vl (w.setCell ⟨b, 2, none⟩ (.int .i64 (n : Int))) := by
  have ht : Tr (· = b) w (w.setCell ⟨b, 2, none⟩ (.int .i64 (n : Int))) := (Tr.refl (· = b) w).setCell (.inl rfl) _
  exact ⟨heap_setCell_same w b 2 _ _ _ h.blk, h.ri.tr ht (fun k e hkb => h.ri.not_cells h.blk (by decide) (by rw [e, hkb])), h.si, h.own⟩
theorem Qn.tr {S2 : Nat → Prop} {w' : World} (h : Qn S b s vl w) (ht : Tr S2 w w') (hd : ∀ k, k < w.heap.size → S k → ¬ S2 k) : Qn S b s vl w' := let ⟨_, h⟩ := h; ⟨_, h.tr ht hd⟩
theorem Qn.mono {S' : Nat → Prop} (h : Qn S b s vl w) (hS : ∀ k, S k → S' k) : Qn S' b s vl w := let ⟨_, h⟩ := h; ⟨_, h.mono hS⟩
theorem Qn.below {w' : World} (h : Qn S b s vl w) (hb : Below w.heap.size w w') : Qn S b s vl w' := let ⟨_, h⟩ := h; ⟨_, h.below hb⟩
theorem Qn.now (h : Qn S b s vl w) : Qn (fun k => S k ∧ k < w.heap.size) b s vl w :=
  let ⟨vi, h⟩ := h
  ⟨vi, h.blk, h.ri, fun k hk => ⟨h.si k hk, h.ri.lt k hk⟩, ⟨h.own, h.lt⟩⟩
theorem Ql.refl (h : Qn S b s vl w) : Ql S b s vl w w := ⟨h.mono fun _ => .inl, Tr.refl _ _⟩
theorem Ql.pre {w1 w2 : World} (h : Below w.heap.size w w1) (k : Ql S b s vl w1 w2) : Ql S b s vl w w2 :=
  ⟨k.1.mono fun i hi => by
    rcases hi with hi | hi
    · exact .inl hi
    · exact .inr (Nat.le_trans h.size hi), (Tr.of_below h).then k.2⟩
theorem Ql.post {w1 w2 : World} (k : Ql S b s vl w w1) (h : Below w1.heap.size w1 w2) : Ql S b s vl w w2 := ⟨k.1.below h, k.2.then (Tr.of_below h)⟩
end
theorem putq_law {S : Nat → Prop} {b n : Nat} {s : St} {x : It} {vi vl : Value} {w w0 wa w1 : World} {g1 cap1 : Nat}
    (h : PQ S b s vi vl w) (hw0 : Below w.heap.size w w0) (hn : n = s.its.length)
    (hwa : Below w0.heap.size (w0.setCell ⟨b, 2, none⟩ (.int .i64 ((s.puts + 1 : Nat) : Int))) wa)
    (hown : w1.ownsRow 0 74 6 (.slice (some ⟨g1, 0, none⟩) (n + 1) cap1) (n + 1) (cs ic s.its ++ ic (x.no (s.puts + 1)))) (hg : wa.grownBy w1 vi.ownBlock) (hat : vi.ownBlock = some g1 ∨ g1 = wa.heap.size) :
    w1.cell? ⟨b, 0, none⟩ = some vi ∧ w1.frozen? ⟨b, 0, none⟩ = false ∧ Ql S b (add s x) vl w (w1.setCell ⟨b, 0, none⟩ (.slice (some ⟨g1, 0, none⟩) (n + 1) cap1)) := by
  subst hn
  have h0 := h.below hw0
  have h1 := h0.puts (s.puts + 1)
  have h2 := h1.below (w' := wa) (by rw [World.size_setCell]; exact hwa)
  have hsz0 := hw0.size
  have hszA := hwa.size
  rw [World.size_setCell] at hszA
  have hr : Rw ic 74 6 w1 (.slice (some ⟨g1, 0, none⟩) (s.its.length + 1) cap1) (s.its ++ [x.no (s.puts + 1)]) := by
    unfold Rw
    rw [List.length_append, cs_append, cs_one]
    exact hown
  have h3 := h2.cell_i hg hr (fun k hk => by
    simp only [Value.ownBlock, Option.some.injEq] at hk
    subst hk
    rcases hat with e | e
    · exact .inl (h.si _ e)
    · exact .inr (Nat.le_of_eq e.symm))
  have hb : some b ≠ vi.ownBlock := fun e => h2.ri.not_cells h2.blk (by decide) e.symm
  have hk := (hg.block b h2.lt hb).trans h2.blk
  refine ⟨by simp [World.cell?, hk], by simp [World.frozen?, hk], ⟨_, h3.mono fun k hk => ?_⟩, ?_⟩
  · rcases hk with hk | hk
    · exact .inl hk
    · exact .inr (by omega)
  · refine (((Tr.of_below hw0).setCell (i := 2) (.inl h.own) _).trans (S' := S) (Tr.of_below (by rw [World.size_setCell]; exact hwa)) (fun _ => .inl)).grown hg (fun k hk => .inl (h.si k hk)) |>.setCell (.inl h.own) _
theorem putq_lawP {S : Nat → Prop} {b n p : Nat} {s : St} {x : It} {vl : Value} {a : Option Addr} {cap : Nat} {w w3 w1 : World} {g1 cap1 : Nat} {o : Obj}
    (h : PQ S b s (.slice a n cap) vl w) (hp : p = s.puts) (hn : n = s.its.length)
    (hw3 : Below w.heap.size (w.setCell ⟨b, 2, none⟩ (.int .i64 ((p : Int) + 1))) w3)
    (hown : w1.ownsRow 0 74 6 (.slice (some ⟨g1, 0, none⟩) (n + 1) cap1) (n + 1) (cs ic s.its ++ [.int .i64 ((p : Int) + 1), .int .i64 x.kind, .int .i64 x.frm, .int .i64 x.dst, .int .i64 x.conn, .string x.body])) (hg : (w3.alloc o).drew.grownBy w1 (Value.slice a n cap).ownBlock) (hat : (Value.slice a n cap).ownBlock = some g1 ∨ g1 = (w3.alloc o).drew.heap.size) :
    w1.cell? ⟨b, 0, none⟩ = some (.slice a n cap) ∧ w1.frozen? ⟨b, 0, none⟩ = false ∧ Ql S b (add s x) vl w (w1.setCell ⟨b, 0, none⟩ (.slice (some ⟨g1, 0, none⟩) (n + 1) cap1)) := by
  subst hp
  have e : ((s.puts : Int) + 1) = ((s.puts + 1 : Nat) : Int) := by simp
  rw [e] at hw3 hown
  have hsz := hw3.size
  rw [World.size_setCell] at hsz
  exact putq_law h (Below.refl _ _) hn (hw3.trans ((((Below.refl _ w3).alloc (Nat.le_refl _) o).drew).mono hsz)) hown hg hat
set_option maxRecDepth 100000 in
set_option maxHeartbeats 4000000 in
theorem putq_any (x : It) (S : Nat → Prop) (b : Nat) (s : St) (vl : Value) (w : World) (h : Qn S b s vl w) (hB : s.its.length ≤ 1000000) (hP : s.puts ≤ 1000000) :
    Calls Try.prog 41 #[ptr b, ia x] w fun e w' => (∃ v, e = .returned v) ∧ Ql S b (add s x) vl w w' := by
  obtain ⟨vi, hp⟩ := h
  have c0 := hp.c0
  have c2 := hp.c2
  have f2 := hp.fz 2 (by omega)
  have hbl := hp.lt
  obtain ⟨a, cap, rfl, _, _⟩ := hp.ri.shape
  obtain ⟨n, hn⟩ : ∃ n, n = s.its.length := ⟨_, rfl⟩
  have hri := hp.ri
  unfold Rw at hri
  rw [← hn] at c0 hri hB
  have HR := Lib.hid hri
  have HP := Lib.hid hp
  rw [← hn] at HP
  have HN := Lib.hid hn
  obtain ⟨p, hpp⟩ : ∃ p, p = s.puts := ⟨_, rfl⟩
  rw [← hpp] at c2 hP
  have HPP := Lib.hid hpp
  clear hp hn hpp hri
  obtain ⟨i0, hi, hz0, hz1, hz2⟩ := info_parts info74
  go_enter Try.func41, Try.ntmps41
  go_wp2
  obtain ⟨w3, hw3⟩ : ∃ w3, w3 = (w.setCell ⟨b, 2, none⟩ (.int .i64 ((p : Int) + 1))).alloc (.cells #[.int .i64 ((p : Int) + 1), .int .i64 x.kind, .int .i64 x.frm, .int .i64 x.dst, .int .i64 x.conn, .string x.body] 74) := ⟨_, rfl⟩
  rw [← hw3]
  have hb3 : Below w.heap.size (w.setCell ⟨b, 2, none⟩ (.int .i64 ((p : Int) + 1))) w3 := by
    rw [hw3]
    have := (Below.refl _ (w.setCell ⟨b, 2, none⟩ (.int .i64 ((p : Int) + 1)))).alloc (Nat.le_refl _) (.cells #[.int .i64 ((p : Int) + 1), .int .i64 x.kind, .int .i64 x.frm, .int .i64 x.dst, .int .i64 x.conn, .string x.body] 74)
    rw [World.size_setCell] at this
    exact this
  have hnew := World.news_of_block (cs := #[.int .i64 ((p : Int) + 1), .int .i64 x.kind, .int .i64 x.frm, .int .i64 x.dst, .int .i64 x.conn, .string x.body]) (t := 74) (fr := (0, 0)) (heap_alloc_new (w.setCell ⟨b, 2, none⟩ (.int .i64 ((p : Int) + 1))) _)
  rw [← hw3, World.size_setCell] at hnew
  have d0 : w3.cell? ⟨w.heap.size, 0, none⟩ = some (.int .i64 ((p : Int) + 1)) := hnew 0 _ rfl
  have d1 : w3.cell? ⟨w.heap.size, 1, none⟩ = some (.int .i64 x.kind) := hnew 1 _ rfl
  have d2 : w3.cell? ⟨w.heap.size, 2, none⟩ = some (.int .i64 x.frm) := hnew 2 _ rfl
  have d3 : w3.cell? ⟨w.heap.size, 3, none⟩ = some (.int .i64 x.dst) := hnew 3 _ rfl
  have d4 : w3.cell? ⟨w.heap.size, 4, none⟩ = some (.int .i64 x.conn) := hnew 4 _ rfl
  have d5 : w3.cell? ⟨w.heap.size, 5, none⟩ = some (.string x.body) := hnew 5 _ rfl
  have hp2 := HP.out.puts (p + 1)
  rw [Int.natCast_add] at hp2
  have hp3 := hp2.below (w' := w3) (by rw [World.size_setCell]; exact hb3)
  have e0 := hp3.c0
  have hown3 : Hid (w3.ownsRow 0 74 6 (.slice a n cap) n (cs ic s.its)) := Lib.hid (by have := hp3.ri; unfold Rw at this; rw [← HN.out] at this; exact this)
  have hsz3 := hb3.size
  rw [World.size_setCell] at hsz3
  have HB3 := Lib.hid hb3
  obtain ⟨B, hB'⟩ : ∃ B, B = w.heap.size := ⟨_, rfl⟩
  rw [← hB'] at d0 d1 d2 d3 d4 d5 ⊢
  have HBB := Lib.hid hB'
  have hbl3 : b < w3.heap.size := by omega
  have hbn : b ≠ w3.heap.size := by omega
  have hBn : B ≠ w3.heap.size := by have h : B < w3.heap.size := (World.block_lt_of_cell? w3 _ d0); omega
  clear hnew hw3 hb3 hp2 hp3 c0 c2 f2 hB' hsz3
  go_region_law ((refine step_append_lies _ rfl (.tmp 20) (.tmp 22) 58 rfl 0 74 i0 (.agg #[.int .i64 0, .int .i64 0, .int .i64 0, .int .i64 0, .int .i64 0, .string ⟨#[]⟩]) 6 56 Try.underlying58 hi hz0 hz1 hz2 rfl (by decide) (.slice a n cap) n _ (by simp [Act.eval]) (hown3.out.alloc _).drew ⟨w3.heap.size, 0, none⟩ 1 1 [.int .i64 ((p : Int) + 1), .int .i64 x.kind, .int .i64 x.frm, .int .i64 x.dst, .int .i64 x.conn, .string x.body] (by simp [Act.eval]) rfl (fun j u hj => World.news_of_block (cs := #[.int .i64 ((p : Int) + 1), .int .i64 x.kind, .int .i64 x.frm, .int .i64 x.dst, .int .i64 x.conn, .string x.body]) (t := 74) (fr := (0, 0)) (heap_alloc_new w3 _) j u hj) (by simp [Value.oneCell']) (by decide) (by unfold maxLen; omega) (by omega) (Nat.zero_le _) _ rfl ?_; intro g1 cap1 w6 hown6 hg6 hat6 hlt6; have A := Lib.hid (putq_lawP HP.out HPP.out HN.out HB3.out hown6 hg6 hat6); have d0' := A.out.1; have e0' := A.out.2.1; clear hown6 hg6 hat6 hlt6))
  all_goals
    go_wp2
    go_end0
    exact ⟨⟨_, rfl⟩, A.out.2.2⟩
set_option maxRecDepth 100000 in
set_option maxHeartbeats 4000000 in
theorem closedq_any (l : Lk) (n : Int) (S : Nat → Prop) (b : Nat) (s : St) (vl : Value) (w : World) (h : Qn S b s vl w) (hB : s.its.length ≤ 1000000) (hP : s.puts ≤ 1000000) :
    Calls Try.prog 47 #[ptr b, la l, .int .i64 n] w fun e w' => e = .returned (.bool (otherL l n).isSome) ∧ Ql S b (tellS s l n) vl w w' := by
  have hb0 : Below w.heap.size w (w.alloc (.cells #[.int .i64 l.num, .int .i64 l.a, .int .i64 l.b] 64)) := (Below.refl _ w).alloc (Nat.le_refl _) _
  obtain ⟨w1, hw1⟩ : ∃ w1, w1 = w.alloc (.cells #[.int .i64 l.num, .int .i64 l.a, .int .i64 l.b] 64) := ⟨_, rfl⟩
  have hce := ce_new w #[.int .i64 l.num, .int .i64 l.a, .int .i64 l.b] 64
  rw [← hw1] at hb0 hce
  have HB0 := Lib.hid hb0
  have HCE := Lib.hid hce
  have O := other_any l n w1
  have H := Lib.hid h
  unfold tellS
  generalize otherL l n = o at *
  have HO := Lib.hid O
  obtain ⟨c0, c1, c2⟩ := c3 hce
  clear h hb0 O hce
  cases o with
  | none =>
    go_enter Try.func47, Try.ntmps47
    go_upto_region 1 with fail
    rw [← hw1]
    obtain ⟨B0, hB0⟩ : ∃ B0, B0 = w.heap.size := ⟨_, rfl⟩
    rw [← hB0] at c0 c1 c2 ⊢
    clear hB0 hw1
    go_wp2_with fail
    refine HO.out.mono ?_
    rintro e w2 ⟨rfl, hb2⟩
    have HB2 := Lib.hid (HB0.out.trans (hb2.mono HB0.out.size))
    clear hb2
    go_wp2
    go_ret
    exact ⟨rfl, (Ql.refl H.out).post HB2.out⟩
  | some t =>
    go_enter Try.func47, Try.ntmps47
    go_upto_region 1 with fail
    rw [← hw1]
    obtain ⟨B0, hB0⟩ : ∃ B0, B0 = w.heap.size := ⟨_, rfl⟩
    rw [← hB0] at c0 c1 c2 HCE ⊢
    clear hB0 hw1
    go_wp2_with fail
    refine HO.out.mono ?_
    rintro e w2 ⟨rfl, hb2⟩
    have HB2 := Lib.hid (HB0.out.trans (hb2.mono HB0.out.size))
    have d0 : w2.cell? ⟨B0, 0, none⟩ = some (.int .i64 l.num) := (hb2.cell (p := ⟨B0, 0, none⟩) HCE.out.lt).trans c0
    clear hb2 c0 c1 c2
    go_wp2_with fail
    refine (putq_any (closedI n t l.num) S b s vl w2 (H.out.below HB2.out) hB hP).mono ?_
    rintro e w3 ⟨⟨v, rfl⟩, hl⟩
    have HL := Lib.hid hl
    clear hl d0
    go_wp2
    go_ret
    exact ⟨rfl, HL.out.pre HB2.out⟩
set_option maxRecDepth 100000 in
set_option maxHeartbeats 4000000 in
theorem tell_any (l : Lk) (n : Int) (Cn Cd : Nat) (S : Nat → Prop) (b : Nat) (s : St) (vl : Value) (w : World) (h : Qn S b s vl w) (hB : s.its.length ≤ 1000000) (hP : s.puts ≤ 1000000) (h1 : w.cell? ⟨Cn, 0, none⟩ = some (ptr b)) (h2 : w.cell? ⟨Cd, 0, none⟩ = some (.int .i64 n)) :
    Calls Try.prog 46 #[la l, ptr Cn, ptr Cd] w fun e w' => e = .returned (.bool (otherL l n).isSome) ∧ Ql S b (tellS s l n) vl w w' := by
  have hl1 : Cn < w.heap.size := w.block_lt_of_cell? _ h1
  have hl2 : Cd < w.heap.size := w.block_lt_of_cell? _ h2
  have HB : Hid (Below w.heap.size w (w.alloc (.cells #[.int .i64 l.num, .int .i64 l.a, .int .i64 l.b] 64))) := Lib.hid ((Below.refl _ w).alloc (Nat.le_refl _) _)
  have HC := Lib.hid (closedq_any l n S b s vl _ (h.below HB.out) hB hP)
  clear h
  go_enter Try.func46, Try.ntmps46
  go_wp2_with fail
  refine HC.out.mono ?_
  rintro e w2 ⟨rfl, hl⟩
  have HL := Lib.hid hl
  clear hl
  go_wp2
  go_ret
  exact ⟨rfl, HL.out.pre HB.out⟩
end Go.Proofs.Ytocmgdhhlofajaa
