/-
  What a packer's Byte, Word, Long, Raw, Len, Bytes and New leave and answer; all else is as it was.
-/
import Derived.Test.YtflpceaaelampaaPk
import Derived.Deep.AppendLies
namespace Go.Proofs.Ytflpceaaelampaa
open Go.RowKit
set_option maxRecDepth 100000 in
set_option maxHeartbeats 1600000 in
theorem praw_any (s : ByteArray) (S : Nat → Prop) (b : Nat) (B : Bs) (L : Kn) (w : World) (h : PK S b B L w) (hB : B.length + s.size ≤ 1000000) :
    Calls Try.prog 23 #[ptr b, .string s] w fun e w' => (∃ v, e = .returned v) ∧ Lft S b (B ++ s.data.toList) L w w' := by
  obtain ⟨sv, mv, hp⟩ := h
  have c0 := hp.blk.cell0
  obtain ⟨a, cap, rfl⟩ := row_slice hp.row
  have HP := Lib.hid hp
  have HSZ := Lib.hid (size_list s)
  obtain ⟨n, hn⟩ : ∃ n, n = B.length := ⟨_, rfl⟩
  have HN := Lib.hid hn
  have hrow := hp.row
  rw [← hn] at hrow hB c0 
  have HR := Lib.hid hrow
  clear hp hn hrow
  obtain ⟨i0, hi, hz0, hz1, hz2⟩ := info_parts info5
  go_enter Try.func23, Try.ntmps23
  go_wp2_with (at_builtin; refine wpList_app_string _ rfl (.tmp 10) (.tmp 11) 92 9 rfl 5 i0 Try.underlying92 Try.underlying9 hi hz0 hz1 hz2 _ n _ rfl HR.out s rfl (by omega) ?_)
  intro v' w1 hown hg hloc
  obtain ⟨a', cap', rfl⟩ := row_slice hown
  have A := Lib.hid (HP.out.append (l := s.data.toList) (v' := .slice a' (n + s.size) cap') (Below.refl _ _) (by rw [← HN.out, ← HSZ.out]; exact hown) (by rw [← HN.out]; exact hg) (by rw [← HN.out]; exact hloc))
  have d0 := A.out.1.cell0
  have f0 := A.out.1.frozen0
  clear hown hg hloc c0
  go_wp2
  go_end0
  exact ⟨⟨_, rfl⟩, A.out.2⟩
set_option maxRecDepth 100000 in
set_option maxHeartbeats 1600000 in
theorem put_any (l : Bs) (g c : Nat) (S : Nat → Prop) (b : Nat) (B : Bs) (L : Kn) (w : World) (h : PK S b B L w) (hB : B.length + l.length ≤ 1000000)
    (hc : ∀ j u, (ub l)[j]? = some u → w.cell? ((⟨g, 0, none⟩ : Addr).add j) = some u) :
    Calls Try.prog 72 #[ptr b, .slice (some ⟨g, 0, none⟩) l.length c] w fun e w' => (∃ v, e = .returned v) ∧ Lft S b (B ++ l) L w w' := by
  obtain ⟨sv, mv, hp⟩ := h
  have c0 := hp.blk.cell0
  obtain ⟨a, cap, rfl⟩ := row_slice hp.row
  have HP := Lib.hid hp
  have HC := Lib.hid hc
  obtain ⟨n, hn⟩ : ∃ n, n = B.length := ⟨_, rfl⟩
  have HN := Lib.hid hn
  obtain ⟨m, hm⟩ : ∃ m, m = l.length := ⟨_, rfl⟩
  have HM := Lib.hid hm
  have hrow := hp.row
  rw [← hm] at hB ⊢
  rw [← hn] at hrow hB c0
  have HR := Lib.hid hrow
  clear hp hn hrow hc hm
  obtain ⟨i0, hi, hz0, hz1, hz2⟩ := info_parts info5
  go_enter Try.func72, Try.ntmps72
  go_wp2_with (at_builtin; refine wpList_append_own_at _ rfl (.tmp 10) (.tmp 11) 92 rfl 0 5 i0 (.int .u8 0) 1 1 Try.underlying92 hi hz0 hz1 hz2 rfl (by decide) _ n _ rfl HR.out ⟨g, 0, none⟩ m c (ub l) rfl (by rw [HM.out]; simp [ub]) HC.out (by simp [ub, Value.oneCell']) (by unfold maxLen; omega) (by omega) (Nat.zero_le _) ?_)
  intro v' w1 hown hg _ hloc
  obtain ⟨a', cap', rfl⟩ := row_slice hown
  have A := Lib.hid (HP.out.append (l := l) (v' := .slice a' (n + m) cap') (Below.refl _ _) (by rw [← HN.out, ← HM.out]; exact hown) (by rw [← HN.out]; exact hg) (by rw [← HN.out]; exact hloc.imp id .inl))
  have d0 := A.out.1.cell0
  have f0 := A.out.1.frozen0
  clear hown hg hloc c0
  go_wp2
  go_end0
  exact ⟨⟨_, rfl⟩, A.out.2⟩
theorem bytes_new (w : World) (l : Bs) : ∀ j u, (ub l)[j]? = some u → (w.alloc (.cells (ub l).toArray 5)).cell? ((⟨w.heap.size, 0, none⟩ : Addr).add j) = some u := by
  intro j u hj
  exact World.news_of_block (cs := (ub l).toArray) (t := 5) (fr := (0, 0)) (heap_alloc_new w _) j u (by simpa using hj)
theorem ub_word (x : Nat) (hx : x < 65536) : (ub (word x)).toArray = #[.int .u8 ((x : Int) / 256), .int .u8 ((x : Int) % 256)] := by
  have e1 : (UInt8.ofNat (x / 256)).toNat = x / 256 := by simp; omega
  have e2 : (UInt8.ofNat x).toNat = x % 256 := by simp
  simp only [ub, word, List.map_cons, List.map_nil, e1, e2]
  rfl
/-- A number in four bytes. -/
def long (n : Nat) : Bs := [UInt8.ofNat (n / 16777216), UInt8.ofNat (n / 65536), UInt8.ofNat (n / 256), UInt8.ofNat n]
set_option maxRecDepth 100000 in
set_option maxHeartbeats 1600000 in
theorem pword_any (x : Nat) (hx : x < 65536) (S : Nat → Prop) (b : Nat) (B : Bs) (L : Kn) (w : World) (h : PK S b B L w) (hB : B.length + 2 ≤ 1000000) :
    Calls Try.prog 49 #[ptr b, .int .u16 (x : Int)] w fun e w' => (∃ v, e = .returned v) ∧ Lft S b (B ++ word x) L w w' := by
  have C := put_any (word x) w.heap.size 2 S b B L (w.alloc (.cells (ub (word x)).toArray 5)) (h.below ((Below.refl _ _).alloc (Nat.le_refl _) _)) hB (bytes_new w (word x))
  rw [ub_word x hx] at C
  have HC := Lib.hid C
  have hx1 : (x : Int) < 65536 := by omega
  clear h C
  go_enter Try.func49, Try.ntmps49
  go_wp2_with fail
  refine HC.out.mono ?_
  rintro e w1 ⟨⟨v, rfl⟩, h1⟩
  go_wp2
  go_end0
  exact ⟨⟨_, rfl⟩, h1.pre ((Below.refl _ _).alloc (Nat.le_refl _) _)⟩
theorem ub_long (z : Int) (h1 : 0 ≤ z) (h2 : z < 4294967296) : (ub (long z.toNat)).toArray = #[.int .u8 (z / 16777216), .int .u8 (z / 65536 % 256), .int .u8 (z / 256 % 256), .int .u8 (z % 256)] := by
  have e1 : ((UInt8.ofNat (z.toNat / 16777216)).toNat : Int) = z / 16777216 := by simp; omega
  have e2 : ((UInt8.ofNat (z.toNat / 65536)).toNat : Int) = z / 65536 % 256 := by simp; omega
  have e3 : ((UInt8.ofNat (z.toNat / 256)).toNat : Int) = z / 256 % 256 := by simp; omega
  have e4 : ((UInt8.ofNat z.toNat).toNat : Int) = z % 256 := by simp; omega
  simp only [ub, long, List.map_cons, List.map_nil, e1, e2, e3, e4]
set_option maxRecDepth 100000 in
set_option maxHeartbeats 1600000 in
theorem plong_any (z : Int) (hx1 : 0 ≤ z) (hx2 : z < 4294967296) (S : Nat → Prop) (b : Nat) (B : Bs) (L : Kn) (w : World) (h : PK S b B L w) (hB : B.length + 4 ≤ 1000000) :
    Calls Try.prog 50 #[ptr b, .int .u32 z] w fun e w' => (∃ v, e = .returned v) ∧ Lft S b (B ++ long z.toNat) L w w' := by
  have C := put_any (long z.toNat) w.heap.size 4 S b B L (w.alloc (.cells (ub (long z.toNat)).toArray 5)) (h.below ((Below.refl _ _).alloc (Nat.le_refl _) _)) hB (bytes_new w (long z.toNat))
  rw [ub_long z hx1 hx2] at C
  have HC := Lib.hid C
  clear h C
  go_enter Try.func50, Try.ntmps50
  go_wp2_with fail
  refine HC.out.mono ?_
  rintro e w1 ⟨⟨v, rfl⟩, h1⟩
  go_wp2
  go_end0
  exact ⟨⟨_, rfl⟩, h1.pre ((Below.refl _ _).alloc (Nat.le_refl _) _)⟩
set_option maxRecDepth 100000 in
set_option maxHeartbeats 1600000 in
theorem plen_any (S : Nat → Prop) (b : Nat) (B : Bs) (L : Kn) (w : World) (h : PK S b B L w) :
    Calls Try.prog 26 #[ptr b] w fun e w' => e = .returned (.int .i64 (B.length : Int)) ∧ w = w' := by
  obtain ⟨sv, mv, hp⟩ := h
  have c0 := hp.blk.cell0
  obtain ⟨a, cap, rfl⟩ := row_slice hp.row
  clear hp
  go_enter Try.func26, Try.ntmps26
  go_wp2
  go_ret
  exact ⟨rfl, rfl⟩
set_option maxRecDepth 100000 in
set_option maxHeartbeats 1600000 in
theorem pbytes_any (S : Nat → Prop) (b : Nat) (B : Bs) (L : Kn) (w : World) (h : PK S b B L w) :
    Calls Try.prog 27 #[ptr b] w fun e w' => e = .returned (str B) ∧ w = w' := by
  obtain ⟨sv, mv, hp⟩ := h
  have c0 := hp.blk.cell0
  obtain ⟨a, cap, rfl⟩ := row_slice hp.row
  have hconv := row_back hp.row
  clear hp
  go_enter Try.func27, Try.ntmps27
  go_wp2
  go_ret
  exact ⟨rfl, rfl⟩
theorem pk_new (w : World) (S : Nat → Prop) (hS : S w.heap.size) : PK S w.heap.size [] [] (w.alloc (.cells #[.slice none 0 0, .map none] 95)) :=
  ⟨_, _, ⟨heap_alloc_new w _, World.ownsRow_nil _ _ _ _, fun k hk => by simp [Value.ownBlock] at hk, hS, .inl ⟨rfl, rfl⟩⟩⟩
set_option maxRecDepth 100000 in
set_option maxHeartbeats 1600000 in
theorem new_any (w : World) :
    Calls Try.prog 22 #[] w fun e w' => e = .returned (ptr w.heap.size) ∧ PK (w.heap.size ≤ ·) w.heap.size [] [] w' ∧ Below w.heap.size w w' := by
  have H := Lib.hid (pk_new w (w.heap.size ≤ ·) (Nat.le_refl _))
  go_enter Try.func22, Try.ntmps22
  go_wp2
  go_ret
  exact ⟨rfl, H.out, (Below.refl _ _).alloc (Nat.le_refl _) _⟩
end Go.Proofs.Ytflpceaaelampaa
