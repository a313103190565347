/-
  What New, full, Waits, fresh and put leave and answer; all else is as it was.
-/
import Derived.Test.YtocmgdhhlofajaaKit
import Derived.Laws.IdiomStrings
namespace Go.Proofs.Ytocmgdhhlofajaa
open Go.RowKit
abbrev Pn := PN 61 74 64
abbrev Pl := Lft 61 74 64
abbrev Rn := PN 30 52 69
abbrev Rl := Lft 30 52 69
theorem size_list (s : ByteArray) : s.size = s.data.toList.length := by
  show s.data.size = _; simp
/-- A block of bytes. -/
def Bys (w : World) (g : Nat) (l : List UInt8) : Prop := ∀ j x, l[j]? = some x → w.cell? ⟨g, j, none⟩ = some (.int .u8 (x.toNat : Int)) ∧ w.frozen? ⟨g, j, none⟩ = false
theorem bys_new (w : World) (t : ByteArray) (cap F e : Nat) (hF : t.size ≤ F) : Bys (w.alloc (.cells (bytesRow t cap) e (F, F + 1))) w.heap.size t.data.toList := by
  intro j x hj
  have hjl : j < t.data.size := by
    have := (List.getElem?_eq_some_iff.1 hj).1
    simpa using this
  have hx : t.data[j] = x := by
    have := (List.getElem?_eq_some_iff.1 hj).2
    simpa using this
  have hs : j < t.size := hjl
  rw [World.cell?_alloc_mark, World.frozen?_alloc_mark, bytesRow_at t cap j hjl, hx]
  exact ⟨rfl, by simp; omega⟩
theorem row_size (t : ByteArray) (c : Nat) : t.size ≤ (bytesRow t c).size := by
  unfold bytesRow
  rw [Array.size_append, Array.size_map]
  exact Nat.le_add_right _ _
theorem bys_back {w : World} {g : Nat} {l : List UInt8} (h : Bys w g l) (c : Nat) : (convert 56 9 (.slice (some ⟨g, 0, none⟩) l.length c)).run Try.prog w = .ok (.string ⟨l.toArray⟩) w :=
  run_convert_bytes_back (P := Try.prog) w 56 9 5 ⟨g, 0, none⟩ c l Try.underlying56 Try.underlying5 Try.underlying9 (fun j hj => by
    rw [show (⟨g, 0, none⟩ : Addr).add j = ⟨g, j, none⟩ by unfold Addr.add; split <;> simp_all]
    exact (h j _ (List.getElem?_eq_getElem hj)).1)
theorem conv_of (t : ByteArray) (w : World) : (convert 9 56 (.string t)).run Try.prog w = .ok (.slice (some ⟨w.heap.size, 0, none⟩) t.size (grownCap w t.size 0 5))
      (w.drew.alloc (.cells (bytesRow t (grownCap w t.size 0 5)) 5 ((bytesRow t (grownCap w t.size 0 5)).size, (bytesRow t (grownCap w t.size 0 5)).size + 1))) :=
  run_bytes_of_string (P := Try.prog) w 9 56 5 t Try.underlying9 Try.underlying56 Try.underlying5
/-- []byte(t): the bytes lie in new memory. -/
theorem conv_bys (t : ByteArray) (w : World) : ∃ C w2, (convert 9 56 (.string t)).run Try.prog w = .ok (.slice (some ⟨w.heap.size, 0, none⟩) t.size C) w2 ∧ Bys w2 w.heap.size t.data.toList ∧ Below w.heap.size w w2 :=
  ⟨_, _, conv_of t w, bys_new w.drew t _ _ 5 (row_size t _), ((Below.refl _ w).drew).alloc (Nat.le_refl _) _⟩
set_option maxHeartbeats 800000 in
theorem fresh_any (s : ByteArray) (w : World) :
    Calls Try.prog 42 #[.string s] w fun e w' => e = .returned (.string s) ∧ Below w.heap.size w w' := by
  obtain ⟨C, w2, h1, h2, h3⟩ := conv_bys s w
  have h4 := bys_back h2 C
  rw [← size_list] at h4
  have HB := Lib.hid h3
  clear h2 h3
  go_enter Try.func42, Try.ntmps42
  go_wp2
  go_ret
  exact ⟨rfl, HB.out⟩
theorem pn_new (w : World) (T ti tl : TypeId) (ne : T ≠ ti ∧ T ≠ tl ∧ ti ≠ tl) : PN T ti tl (w.heap.size ≤ ·) w.heap.size St.empty (w.alloc (.cells #[.slice none 0 0, .slice none 0 0, .int .i64 0, .int .i64 0] T)) :=
  ⟨_, _, heap_alloc_new w _, Rw.nil _, Rw.nil _, fun k hk => by simp [Value.ownBlock] at hk, fun k hk => by simp [Value.ownBlock] at hk, Nat.le_refl _, ne⟩
set_option maxRecDepth 100000 in
set_option maxHeartbeats 1600000 in
theorem new_any (w : World) :
    Calls Try.prog 10 #[] w fun e w' => e = .returned (ptr w.heap.size) ∧ Pn (w.heap.size ≤ ·) w.heap.size St.empty w' ∧ Below w.heap.size w w' := by
  have H := Lib.hid (pn_new w 61 74 64 (by decide))
  go_enter Try.func10, Try.ntmps10
  go_wp2
  go_ret
  exact ⟨rfl, H.out, (Below.refl _ _).alloc (Nat.le_refl _) _⟩
set_option maxRecDepth 100000 in
set_option maxHeartbeats 1600000 in
theorem full_any (S : Nat → Prop) (b : Nat) (s : St) (w : World) (h : Pn S b s w) :
    Calls Try.prog 40 #[ptr b] w fun e w' => e = .returned (.bool (full s)) ∧ w = w' := by
  obtain ⟨vi, vl, hp⟩ := h
  have c0 := hp.c0
  obtain ⟨a, cap, rfl, _⟩ := hp.ri.shape
  have hf : full s = decide ((1024 : Int) ≤ (s.its.length : Int)) := by unfold full; congr 1; simp only [eq_iff_iff]; omega
  rw [hf]
  clear hp hf
  generalize s.its.length = n at *
  go_enter Try.func40, Try.ntmps40
  go_wp2
  go_ret
  exact ⟨rfl, rfl⟩
set_option maxRecDepth 100000 in
set_option maxHeartbeats 1600000 in
theorem waits_any (S : Nat → Prop) (b : Nat) (s : St) (w : World) (h : Pn S b s w) :
    Calls Try.prog 14 #[ptr b] w fun e w' => e = .returned (.int .i64 (s.its.length : Int)) ∧ w = w' := by
  obtain ⟨vi, vl, hp⟩ := h
  have c0 := hp.c0
  obtain ⟨a, cap, rfl, _⟩ := hp.ri.shape
  clear hp
  generalize s.its.length = n at *
  go_enter Try.func14, Try.ntmps14
  go_wp2
  go_ret
  exact ⟨rfl, rfl⟩
/-- An item as an argument. -/
abbrev ia (x : It) : Value := .agg #[.int .i64 x.num, .int .i64 x.kind, .int .i64 x.frm, .int .i64 x.dst, .int .i64 x.conn, .string x.body]
theorem no_cs (x : It) (n : Nat) : ic (x.no n) = [.int .i64 (n : Int), .int .i64 x.kind, .int .i64 x.frm, .int .i64 x.dst, .int .i64 x.conn, .string x.body] := rfl
/-- Behind the append: what the walk wants, and what is left. -/
theorem put_law {T ti tl : TypeId} {S : Nat → Prop} {b n : Nat} {s : St} {x : It} {vi vl : Value} {w w0 wa w1 : World} {g1 cap1 : Nat}
    (h : PV T ti tl S b s vi vl w) (hw0 : Below w.heap.size w w0) (hn : n = s.its.length)
    (hwa : Below w0.heap.size (w0.setCell ⟨b, 2, none⟩ (.int .i64 ((s.puts + 1 : Nat) : Int))) wa)
    (hown : w1.ownsRow 0 ti 6 (.slice (some ⟨g1, 0, none⟩) (n + 1) cap1) (n + 1) (cs ic s.its ++ ic (x.no (s.puts + 1)))) (hg : wa.grownBy w1 vi.ownBlock) (hat : vi.ownBlock = some g1 ∨ g1 = wa.heap.size) :
    w1.cell? ⟨b, 0, none⟩ = some vi ∧ w1.frozen? ⟨b, 0, none⟩ = false ∧ Lft T ti tl S b (add s x) w (w1.setCell ⟨b, 0, none⟩ (.slice (some ⟨g1, 0, none⟩) (n + 1) cap1)) := by
  subst hn
  have h0 := h.below hw0
  have h1 := h0.puts (s.puts + 1)
  have h2 := h1.below (w' := wa) (by rw [World.size_setCell]; exact hwa)
  have hsz0 := hw0.size
  have hszA := hwa.size
  rw [World.size_setCell] at hszA
  have hr : Rw ic ti 6 w1 (.slice (some ⟨g1, 0, none⟩) (s.its.length + 1) cap1) (s.its ++ [x.no (s.puts + 1)]) := by
    unfold Rw
    rw [List.length_append, cs_append, cs_one]
    exact hown
  have h3 := h2.cell_i hg hr (fun k hk => by
    simp only [Value.ownBlock, Option.some.injEq] at hk
    subst hk
    rcases hat with e | e
    · exact .inl (h.si _ e)
    · exact .inr (Nat.le_of_eq e.symm))
  have hb : some b ≠ vi.ownBlock := fun e => h2.ri.not_cells h2.blk h2.ne.1 e.symm
  have hk := (hg.block b h2.lt hb).trans h2.blk
  refine ⟨by simp [World.cell?, hk], by simp [World.frozen?, hk], ⟨_, _, h3.mono fun k hk => ?_⟩, ?_⟩
  · rcases hk with hk | hk
    · exact .inl hk
    · exact .inr (by omega)
  · refine (((Tr.of_below hw0).setCell (i := 2) (.inl h.own) _).trans (S' := S) (Tr.of_below (by rw [World.size_setCell]; exact hwa)) (fun _ => .inl)).grown hg (fun k hk => .inl (h.si k hk)) |>.setCell (.inl h.own) _
theorem put_lawP {S : Nat → Prop} {b n p : Nat} {s : St} {x : It} {vl : Value} {a : Option Addr} {cap : Nat} {w w3 w1 : World} {g1 cap1 : Nat} {o : Obj}
    (h : PV 61 74 64 S b s (.slice a n cap) vl w) (hp : p = s.puts) (hn : n = s.its.length)
    (hw3 : Below w.heap.size (w.setCell ⟨b, 2, none⟩ (.int .i64 ((p : Int) + 1))) w3)
    (hown : w1.ownsRow 0 74 6 (.slice (some ⟨g1, 0, none⟩) (n + 1) cap1) (n + 1) (cs ic s.its ++ [.int .i64 ((p : Int) + 1), .int .i64 x.kind, .int .i64 x.frm, .int .i64 x.dst, .int .i64 x.conn, .string x.body])) (hg : (w3.alloc o).drew.grownBy w1 (Value.slice a n cap).ownBlock) (hat : (Value.slice a n cap).ownBlock = some g1 ∨ g1 = (w3.alloc o).drew.heap.size) :
    w1.cell? ⟨b, 0, none⟩ = some (.slice a n cap) ∧ w1.frozen? ⟨b, 0, none⟩ = false ∧ Pl S b (add s x) w (w1.setCell ⟨b, 0, none⟩ (.slice (some ⟨g1, 0, none⟩) (n + 1) cap1)) := by
  subst hp
  have e : ((s.puts : Int) + 1) = ((s.puts + 1 : Nat) : Int) := by simp
  rw [e] at hw3 hown
  have hsz := hw3.size
  rw [World.size_setCell] at hsz
  exact put_law h (Below.refl _ _) hn (hw3.trans ((((Below.refl _ w3).alloc (Nat.le_refl _) o).drew).mono hsz)) hown hg hat
set_option maxRecDepth 100000 in
set_option maxHeartbeats 4000000 in
theorem put_any (x : It) (S : Nat → Prop) (b : Nat) (s : St) (w : World) (h : Pn S b s w) (hB : s.its.length ≤ 1000000) (hP : s.puts ≤ 1000000) :
    Calls Try.prog 41 #[ptr b, ia x] w fun e w' => (∃ v, e = .returned v) ∧ Pl S b (add s x) w w' := by
  obtain ⟨vi, vl, hp⟩ := h
  have c0 := hp.c0
  have c2 := hp.c2
  have f2 := hp.fz 2 (by omega)
  have hbl := hp.lt
  obtain ⟨a, cap, rfl, _, _⟩ := hp.ri.shape
  obtain ⟨n, hn⟩ : ∃ n, n = s.its.length := ⟨_, rfl⟩
  have hri := hp.ri
  unfold Rw at hri
  rw [← hn] at c0 hri hB
  have HR := Lib.hid hri
  have HP := Lib.hid hp
  rw [← hn] at HP
  have HN := Lib.hid hn
  obtain ⟨p, hpp⟩ : ∃ p, p = s.puts := ⟨_, rfl⟩
  rw [← hpp] at c2 hP
  have HPP := Lib.hid hpp
  clear hp hn hpp hri
  obtain ⟨i0, hi, hz0, hz1, hz2⟩ := info_parts info74
  go_enter Try.func41, Try.ntmps41
  go_wp2
  obtain ⟨w3, hw3⟩ : ∃ w3, w3 = (w.setCell ⟨b, 2, none⟩ (.int .i64 ((p : Int) + 1))).alloc (.cells #[.int .i64 ((p : Int) + 1), .int .i64 x.kind, .int .i64 x.frm, .int .i64 x.dst, .int .i64 x.conn, .string x.body] 74) := ⟨_, rfl⟩
  rw [← hw3]
  have hb3 : Below w.heap.size (w.setCell ⟨b, 2, none⟩ (.int .i64 ((p : Int) + 1))) w3 := by
    rw [hw3]
    have := (Below.refl _ (w.setCell ⟨b, 2, none⟩ (.int .i64 ((p : Int) + 1)))).alloc (Nat.le_refl _) (.cells #[.int .i64 ((p : Int) + 1), .int .i64 x.kind, .int .i64 x.frm, .int .i64 x.dst, .int .i64 x.conn, .string x.body] 74)
    rw [World.size_setCell] at this
    exact this
  have hnew := World.news_of_block (cs := #[.int .i64 ((p : Int) + 1), .int .i64 x.kind, .int .i64 x.frm, .int .i64 x.dst, .int .i64 x.conn, .string x.body]) (t := 74) (fr := (0, 0)) (heap_alloc_new (w.setCell ⟨b, 2, none⟩ (.int .i64 ((p : Int) + 1))) _)
  rw [← hw3, World.size_setCell] at hnew
  have d0 : w3.cell? ⟨w.heap.size, 0, none⟩ = some (.int .i64 ((p : Int) + 1)) := hnew 0 _ rfl
  have d1 : w3.cell? ⟨w.heap.size, 1, none⟩ = some (.int .i64 x.kind) := hnew 1 _ rfl
  have d2 : w3.cell? ⟨w.heap.size, 2, none⟩ = some (.int .i64 x.frm) := hnew 2 _ rfl
  have d3 : w3.cell? ⟨w.heap.size, 3, none⟩ = some (.int .i64 x.dst) := hnew 3 _ rfl
  have d4 : w3.cell? ⟨w.heap.size, 4, none⟩ = some (.int .i64 x.conn) := hnew 4 _ rfl
  have d5 : w3.cell? ⟨w.heap.size, 5, none⟩ = some (.string x.body) := hnew 5 _ rfl
  have hp2 := HP.out.puts (p + 1)
  rw [Int.natCast_add] at hp2
  have hp3 := hp2.below (w' := w3) (by rw [World.size_setCell]; exact hb3)
  have e0 := hp3.c0
  have hown3 : Hid (w3.ownsRow 0 74 6 (.slice a n cap) n (cs ic s.its)) := Lib.hid (by have := hp3.ri; unfold Rw at this; rw [← HN.out] at this; exact this)
  have hsz3 := hb3.size
  rw [World.size_setCell] at hsz3
  have HB3 := Lib.hid hb3
  obtain ⟨B, hB'⟩ : ∃ B, B = w.heap.size := ⟨_, rfl⟩
  rw [← hB'] at d0 d1 d2 d3 d4 d5 ⊢
  have HBB := Lib.hid hB'
  have hbl3 : b < w3.heap.size := by omega
  have hbn : b ≠ w3.heap.size := by omega
  have hBn : B ≠ w3.heap.size := by have h : B < w3.heap.size := (World.block_lt_of_cell? w3 _ d0); omega
  clear hnew hw3 hb3 hp2 hp3 c0 c2 f2 hB' hsz3
  go_region_law ((refine step_append_lies _ rfl (.tmp 20) (.tmp 22) 58 rfl 0 74 i0 (.agg #[.int .i64 0, .int .i64 0, .int .i64 0, .int .i64 0, .int .i64 0, .string ⟨#[]⟩]) 6 56 Try.underlying58 hi hz0 hz1 hz2 rfl (by decide) (.slice a n cap) n _ (by simp [Act.eval]) (hown3.out.alloc _).drew ⟨w3.heap.size, 0, none⟩ 1 1 [.int .i64 ((p : Int) + 1), .int .i64 x.kind, .int .i64 x.frm, .int .i64 x.dst, .int .i64 x.conn, .string x.body] (by simp [Act.eval]) rfl (fun j u hj => World.news_of_block (cs := #[.int .i64 ((p : Int) + 1), .int .i64 x.kind, .int .i64 x.frm, .int .i64 x.dst, .int .i64 x.conn, .string x.body]) (t := 74) (fr := (0, 0)) (heap_alloc_new w3 _) j u hj) (by simp [Value.oneCell']) (by decide) (by unfold maxLen; omega) (by omega) (Nat.zero_le _) _ rfl ?_; intro g1 cap1 w6 hown6 hg6 hat6 hlt6; have A := Lib.hid (put_lawP HP.out HPP.out HN.out HB3.out hown6 hg6 hat6); have d0' := A.out.1; have e0' := A.out.2.1; clear hown6 hg6 hat6 hlt6))
  all_goals
    go_wp2
    go_end0
    exact ⟨⟨_, rfl⟩, A.out.2.2⟩
end Go.Proofs.Ytocmgdhhlofajaa
