/-
  Seq: The reader of labels: how it begins, and what each call of it answers, for every text and place; no older memory is changed.
  Follow: What follow answers, for every text and place; no older memory is changed.
  Next: What a call of the reader of labels answers, for every text and place; no older memory is changed.
  Name: What Name answers, for every text and place; no older memory is changed.
  RName: What the document's Name answers, for every text and place; no older memory is changed.
-/
import Derived.Test.YtljfkjbagebncaaG06
import Derived.Test.YtljfkjbagebncaaG03
import Derived.Deep.LoopGhost
import Derived.Test.YtljfkjbagebncaaG04

/- Seq -/
namespace Go.Proofs.Ytljfkjbagebncaa
open Go.RowKit
/-- The reader's five variables. -/
structure Sq (w : World) (b0 b1 b2 b3 b4 : Nat) (s : ByteArray) (p st : Int) (pd : Bool) (af : Int) : Prop where
  c0 : Boxed w b0 9 (.string s)
  c1 : Boxed w b1 3 (.int .i64 p)
  c2 : Boxed w b2 3 (.int .i64 st)
  c3 : Boxed w b3 4 (.bool pd)
  c4 : Boxed w b4 3 (.int .i64 af)
  d : b0 ≠ b1 ∧ b0 ≠ b2 ∧ b0 ≠ b3 ∧ b0 ≠ b4 ∧ b1 ≠ b2 ∧ b1 ≠ b3 ∧ b1 ≠ b4 ∧ b2 ≠ b3 ∧ b2 ≠ b4 ∧ b3 ≠ b4
/-- The blocks that the reader writes. -/
def SqB (b1 b2 b3 b4 : Nat) : Nat → Prop := fun k => k = b1 ∨ k = b2 ∨ k = b3 ∨ k = b4
theorem seq_world (w : World) (o0 o1 o2 o3 o4 : Obj) : Below w.heap.size w ((((((w.alloc o0).alloc o1).alloc o2).alloc o3).alloc o4).drew) :=
  ((((((Below.refl _ w).alloc (Nat.le_refl _) _).alloc (by simp) _).alloc (by simp; omega) _).alloc (by simp; omega) _).alloc (by simp; omega) _).drew
theorem seq_boxes (w : World) (t0 t1 t2 t3 t4 : TypeId) (v0 v1 v2 v3 v4 : Value) :
    let w' := ((((((w.alloc (.cells #[v0] t0)).alloc (.cells #[v1] t1)).alloc (.cells #[v2] t2)).alloc (.cells #[v3] t3)).alloc (.cells #[v4] t4)).drew)
    Boxed w' w.heap.size t0 v0 ∧ Boxed w' (w.heap.size + 1) t1 v1 ∧ Boxed w' (w.heap.size + 2) t2 v2 ∧ Boxed w' (w.heap.size + 3) t3 v3 ∧ Boxed w' (w.heap.size + 4) t4 v4 := by
  intro w'
  have h0 := Boxed.new w t0 v0
  have h1 := Boxed.new (w.alloc (.cells #[v0] t0)) t1 v1
  have h2 := Boxed.new ((w.alloc (.cells #[v0] t0)).alloc (.cells #[v1] t1)) t2 v2
  have h3 := Boxed.new (((w.alloc (.cells #[v0] t0)).alloc (.cells #[v1] t1)).alloc (.cells #[v2] t2)) t3 v3
  have h4 := Boxed.new ((((w.alloc (.cells #[v0] t0)).alloc (.cells #[v1] t1)).alloc (.cells #[v2] t2)).alloc (.cells #[v3] t3)) t4 v4
  simp only [World.size_alloc] at h1 h2 h3 h4
  exact ⟨(((h0.alloc _).alloc _).alloc _).alloc _, ((h1.alloc _).alloc _).alloc _, (h2.alloc _).alloc _, h3.alloc _, h4⟩
def SeqPost (s : ByteArray) (a : Int) (w : World) (e : Ending) (w' : World) : Prop := ∃ b2 b3 b4,
  e = .returned (.func (.func 117) #[] #[ptr w.heap.size, ptr (w.heap.size + 1), ptr b2, ptr b3, ptr b4]) ∧ Sq w' w.heap.size (w.heap.size + 1) b2 b3 b4 s a a false a ∧ w.heap.size ≤ b2 ∧ w.heap.size ≤ b3 ∧ w.heap.size ≤ b4 ∧ Below w.heap.size w w'
theorem seq_post {s : ByteArray} {a : Int} {w : World} {t2 t3 t4 : TypeId} {v2 v3 v4 : Value} (i2 i3 i4 : Nat)
    (h2 : Boxed ((((((w.alloc (.cells #[.string s] 9)).alloc (.cells #[.int .i64 a] 3)).alloc (.cells #[v2] t2)).alloc (.cells #[v3] t3)).alloc (.cells #[v4] t4)).drew) (w.heap.size + i2) 3 (.int .i64 a))
    (h3 : Boxed ((((((w.alloc (.cells #[.string s] 9)).alloc (.cells #[.int .i64 a] 3)).alloc (.cells #[v2] t2)).alloc (.cells #[v3] t3)).alloc (.cells #[v4] t4)).drew) (w.heap.size + i3) 4 (.bool false))
    (h4 : Boxed ((((((w.alloc (.cells #[.string s] 9)).alloc (.cells #[.int .i64 a] 3)).alloc (.cells #[v2] t2)).alloc (.cells #[v3] t3)).alloc (.cells #[v4] t4)).drew) (w.heap.size + i4) 3 (.int .i64 a))
    (hd : 2 ≤ i2 ∧ 2 ≤ i3 ∧ 2 ≤ i4 ∧ i2 ≠ i3 ∧ i2 ≠ i4 ∧ i3 ≠ i4) :
    SeqPost s a w (.returned (.func (.func 117) #[] #[ptr w.heap.size, ptr (w.heap.size + 1), ptr (w.heap.size + i2), ptr (w.heap.size + i3), ptr (w.heap.size + i4)])) ((((((w.alloc (.cells #[.string s] 9)).alloc (.cells #[.int .i64 a] 3)).alloc (.cells #[v2] t2)).alloc (.cells #[v3] t3)).alloc (.cells #[v4] t4)).drew) := by
  obtain ⟨k0, k1, _⟩ := seq_boxes w 9 3 t2 t3 t4 (.string s) (.int .i64 a) v2 v3 v4
  exact ⟨_, _, _, rfl, ⟨k0, k1, h2, h3, h4, by omega⟩, by omega, by omega, by omega, seq_world _ _ _ _ _ _⟩
set_option maxRecDepth 100000 in
set_option maxHeartbeats 4000000 in
theorem seq_any (s : ByteArray) (a : Int) (w : World) :
    Calls Try.prog 100 #[.string s, .int .i64 a] w (SeqPost s a w) := by
  go_enter Try.func100, Try.ntmps100
  go_wp2
  go_region
  all_goals go_wp2
  all_goals refine bodyPost_ret (results_tmp rfl _ _ _) rfl ?_
  all_goals simp only [Array.getD]
  all_goals first
    | exact (fun (k2 : Boxed _ (w.heap.size + 2) _ _) (k3 : Boxed _ (w.heap.size + 3) _ _) (k4 : Boxed _ (w.heap.size + 4) _ _) => seq_post 2 4 3 k2 k4 k3 (by omega)) (seq_boxes w 9 3 3 3 4 (.string s) (.int .i64 a) (.int .i64 a) (.int .i64 a) (.bool false)).2.2.1 (seq_boxes w 9 3 3 3 4 (.string s) (.int .i64 a) (.int .i64 a) (.int .i64 a) (.bool false)).2.2.2.1 (seq_boxes w 9 3 3 3 4 (.string s) (.int .i64 a) (.int .i64 a) (.int .i64 a) (.bool false)).2.2.2.2
    | exact (fun (k2 : Boxed _ (w.heap.size + 2) _ _) (k3 : Boxed _ (w.heap.size + 3) _ _) (k4 : Boxed _ (w.heap.size + 4) _ _) => seq_post 3 4 2 k3 k4 k2 (by omega)) (seq_boxes w 9 3 3 3 4 (.string s) (.int .i64 a) (.int .i64 a) (.int .i64 a) (.bool false)).2.2.1 (seq_boxes w 9 3 3 3 4 (.string s) (.int .i64 a) (.int .i64 a) (.int .i64 a) (.bool false)).2.2.2.1 (seq_boxes w 9 3 3 3 4 (.string s) (.int .i64 a) (.int .i64 a) (.int .i64 a) (.bool false)).2.2.2.2
    | exact (fun (k2 : Boxed _ (w.heap.size + 2) _ _) (k3 : Boxed _ (w.heap.size + 3) _ _) (k4 : Boxed _ (w.heap.size + 4) _ _) => seq_post 2 3 4 k2 k3 k4 (by omega)) (seq_boxes w 9 3 3 4 3 (.string s) (.int .i64 a) (.int .i64 a) (.bool false) (.int .i64 a)).2.2.1 (seq_boxes w 9 3 3 4 3 (.string s) (.int .i64 a) (.int .i64 a) (.bool false) (.int .i64 a)).2.2.2.1 (seq_boxes w 9 3 3 4 3 (.string s) (.int .i64 a) (.int .i64 a) (.bool false) (.int .i64 a)).2.2.2.2
    | exact (fun (k2 : Boxed _ (w.heap.size + 2) _ _) (k3 : Boxed _ (w.heap.size + 3) _ _) (k4 : Boxed _ (w.heap.size + 4) _ _) => seq_post 4 3 2 k4 k3 k2 (by omega)) (seq_boxes w 9 3 3 4 3 (.string s) (.int .i64 a) (.int .i64 a) (.bool false) (.int .i64 a)).2.2.1 (seq_boxes w 9 3 3 4 3 (.string s) (.int .i64 a) (.int .i64 a) (.bool false) (.int .i64 a)).2.2.2.1 (seq_boxes w 9 3 3 4 3 (.string s) (.int .i64 a) (.int .i64 a) (.bool false) (.int .i64 a)).2.2.2.2
    | exact (fun (k2 : Boxed _ (w.heap.size + 2) _ _) (k3 : Boxed _ (w.heap.size + 3) _ _) (k4 : Boxed _ (w.heap.size + 4) _ _) => seq_post 3 2 4 k3 k2 k4 (by omega)) (seq_boxes w 9 3 4 3 3 (.string s) (.int .i64 a) (.bool false) (.int .i64 a) (.int .i64 a)).2.2.1 (seq_boxes w 9 3 4 3 3 (.string s) (.int .i64 a) (.bool false) (.int .i64 a) (.int .i64 a)).2.2.2.1 (seq_boxes w 9 3 4 3 3 (.string s) (.int .i64 a) (.bool false) (.int .i64 a) (.int .i64 a)).2.2.2.2
    | exact (fun (k2 : Boxed _ (w.heap.size + 2) _ _) (k3 : Boxed _ (w.heap.size + 3) _ _) (k4 : Boxed _ (w.heap.size + 4) _ _) => seq_post 4 2 3 k4 k2 k3 (by omega)) (seq_boxes w 9 3 4 3 3 (.string s) (.int .i64 a) (.bool false) (.int .i64 a) (.int .i64 a)).2.2.1 (seq_boxes w 9 3 4 3 3 (.string s) (.int .i64 a) (.bool false) (.int .i64 a) (.int .i64 a)).2.2.2.1 (seq_boxes w 9 3 4 3 3 (.string s) (.int .i64 a) (.bool false) (.int .i64 a) (.int .i64 a)).2.2.2.2
end Go.Proofs.Ytljfkjbagebncaa

/- Follow -/
namespace Go.Proofs.Ytljfkjbagebncaa
open Go.RowKit
theorem not_mark (x : Nat) (hx : x < 65536) : bits .andNot .u16 (x : Int) 49152 = ((x % 16384 : Nat) : Int) := by
  have h := u16_andNot_nat x 49152 hx (by decide)
  have e : x &&& (65535 - 49152) = x % 16384 := Nat.and_two_pow_sub_one_eq_mod x 14
  rw [e] at h
  exact h
theorem ret_three {a b c x y z : Int} (h1 : a = x) (h2 : b = y) (h3 : c = z) : Ending.returned (.tuple #[.int .i64 a, .int .i64 b, .int .i64 c]) = .returned (.tuple #[.int .i64 x, .int .i64 y, .int .i64 z]) := by rw [h1, h2, h3]
set_option maxRecDepth 100000 in
set_option maxHeartbeats 1600000 in
theorem follow_yes (s : ByteArray) (hs : s.size ≤ 140737488351232) (p st t : Nat) (hp : p + 1 < s.size) (ht : numB (piS s.data.toList p 2) % 16384 = t) (h : t < st) (w : World) :
    Calls Try.prog 119 #[.string s, .int .i64 (p : Int), .int .i64 (st : Int)] w fun e w' => e = .returned (.tuple #[.int .i64 (t : Int), .int .i64 ((p : Int) + 2), .int .i64 0]) ∧ w = w' := by
  have C := word_any s hs (p : Int) (by omega) w
  have hx : numB (piS s.data.toList p 2) < 65536 := piS_len' s.data.toList p 2
  obtain ⟨e1, e2, e3⟩ := pi_yes (s := s.data.toList) (piE_yes (a := (p : Int)) (n := 2) (by omega) (by omega) (by rw [← size_list]; omega))
  unfold nuV at C
  rw [e2, e3] at C
  obtain ⟨x, hx0⟩ : ∃ x, x = numB (piS s.data.toList p 2) := ⟨_, rfl⟩
  rw [← hx0] at C hx ht
  have hb := not_mark x hx
  rw [ht] at hb
  have hx1 : (x : Int) < 65536 := by omega
  have ht1 : (t : Int) < 16384 := by omega
  have hc : decide (((st : Nat) : Int) ≤ ((t : Nat) : Int)) = false := by simp; omega
  have hc' : decide (st ≤ t) = false := by simp; omega
  have HC := Lib.hid C
  clear C hx hx0 e1 e2 e3 ht
  go_enter Try.func119, Try.ntmps119
  go_wp2_with fail
  refine HC.out.mono ?_
  rintro e w' ⟨rfl, rfl⟩
  go_wp2
  go_ret3
  exact ⟨rfl, rfl⟩
set_option maxRecDepth 100000 in
set_option maxHeartbeats 1600000 in
theorem follow_no (s : ByteArray) (hs : s.size ≤ 140737488351232) (p st : Nat) (hpb : (p : Int) ≤ 9223372036854775807) (h : ¬ (p + 1 < s.size ∧ numB (piS s.data.toList p 2) % 16384 < st)) (w : World) :
    Calls Try.prog 119 #[.string s, .int .i64 (p : Int), .int .i64 (st : Int)] w fun e w' => e = .returned (.tuple #[.int .i64 0, .int .i64 0, .int .i64 10]) ∧ w = w' := by
  have C := word_any s hs (p : Int) (by omega) w
  have hx : numB (piS s.data.toList p 2) < 65536 := piS_len' s.data.toList p 2
  unfold nuV at C
  by_cases hp : p + 1 < s.size
  · obtain ⟨e1, e2, e3⟩ := pi_yes (s := s.data.toList) (piE_yes (a := (p : Int)) (n := 2) (by omega) (by omega) (by rw [← size_list]; omega))
    rw [e2, e3] at C
    obtain ⟨x, hx0⟩ : ∃ x, x = numB (piS s.data.toList p 2) := ⟨_, rfl⟩
    rw [← hx0] at C hx h
    have hb := not_mark x hx
    obtain ⟨t, ht⟩ : ∃ t, x % 16384 = t := ⟨_, rfl⟩
    rw [ht] at hb h
    have hx1 : (x : Int) < 65536 := by omega
    have ht1 : (t : Int) < 16384 := by omega
    have hc : decide (((st : Nat) : Int) ≤ ((t : Nat) : Int)) = true := by simp; omega
    have hc' : decide (st ≤ t) = true := by simp; omega
    have HC := Lib.hid C
    clear C hx hx0 e1 e2 e3 ht h
    go_enter Try.func119, Try.ntmps119
    go_wp2_with fail
    refine HC.out.mono ?_
    rintro e w' ⟨rfl, rfl⟩
    go_wp2
    go_ret3
    exact ⟨rfl, rfl⟩
  · obtain ⟨e1, e2, e3⟩ := pi_no (s := s.data.toList) (a := (p : Int)) (n := 2) (piE_no (by rw [← size_list]; omega))
    rw [e1, e2, e3] at C
    have HC := Lib.hid C
    clear C hx e1 e2 e3 h
    go_enter Try.func119, Try.ntmps119
    go_wp2_with fail
    refine HC.out.mono ?_
    rintro e w' ⟨rfl, rfl⟩
    rw [show numB [] = 0 from rfl]
    go_wp2
    go_ret3
    exact ⟨rfl, rfl⟩
end Go.Proofs.Ytljfkjbagebncaa

/- Next -/
namespace Go.Proofs.Ytljfkjbagebncaa
open Go.RowKit
theorem piS_one {l : Bs} {p : Nat} (h : p < l.length) : piS l (p : Int) 1 = [l.getD p 0] := by
  rw [(pi_yes (piE_yes (by omega) (by omega) (by omega))).1]
  have e : ((1 : Int)).toNat = 1 := rfl
  rw [Int.toNat_natCast, e, List.drop_eq_getElem_cons h, List.take_succ_cons, List.take_zero]
  simp [h]
theorem piS_two {l : Bs} {p : Nat} (h : p + 1 < l.length) : piS l (p : Int) 2 = [l.getD p 0, l.getD (p + 1) 0] := by
  rw [(pi_yes (piE_yes (by omega) (by omega) (by omega))).1]
  have e : ((2 : Int)).toNat = 2 := rfl
  rw [Int.toNat_natCast, e, List.drop_eq_getElem_cons (by omega), List.drop_eq_getElem_cons h, List.take_succ_cons, List.take_succ_cons, List.take_zero]
  simp [h, show p < l.length by omega]
theorem numB_one (c : UInt8) : numB [c] = c.toNat := by simp [numB]
theorem numB_two (c d : UInt8) : numB [c, d] = c.toNat * 256 + d.toNat := by simp [numB]
theorem drewN_below (w : World) (n : Nat) : Below w.heap.size w (w.drewN n) := ⟨rfl, rfl, rfl, Nat.le_refl _, fun _ _ => rfl⟩
theorem Tr.drewN {S : Nat → Prop} {a w : World} (h : Tr S a w) (n : Nat) : Tr S a (w.drewN n) :=
  h.then (Tr.of_below (drewN_below w n))
/-- The place from which reading goes on is ahead of the one before. -/
def Ahead (p st p' st' : Nat) : Prop := (st' = st ∧ p' = p) ∨ st' < st
def NxPost (s : ByteArray) (p st : Nat) (aft : Option Nat) (b0 b1 b2 b3 b4 : Nat) (e : Ending) (w' : World) : Prop :=
  (e = .returned (.tuple #[.string ⟨#[]⟩, .int .i64 0, .int .i64 10]) ∧ ∀ acc, nm s.data.toList p st aft acc = ([], 0, 10)) ∨
  (∃ (p' st' : Nat) (aft' : Option Nat) (c : Nat), e = .returned (.tuple #[str ((s.data.toList.drop p').take (1 + c)), .int .i64 ((aft'.getD (p' + 1 + c) : Nat) : Int), .int .i64 0]) ∧
    p' < s.data.toList.length ∧ (s.data.toList.getD p' 0).toNat = c ∧ c ≤ 63 ∧ p' + 1 + c ≤ s.data.toList.length ∧
    Sq w' b0 b1 b2 b3 b4 s ((p' + 1 + c : Nat) : Int) (st' : Int) aft'.isSome ((aft'.getD (p' + 1 + c) : Nat) : Int) ∧
    (∀ acc, nm s.data.toList p st aft acc = nm s.data.toList p' st' aft' acc) ∧ Ahead p st p' st')
def NxP (s : ByteArray) (p st : Nat) (aft : Option Nat) (b0 b1 b2 b3 b4 : Nat) (w : World) (e : Ending) (w' : World) : Prop :=
  NxPost s p st aft b0 b1 b2 b3 b4 e w' ∧ Tr (SqB b1 b2 b3 b4) w w'
/-- What the loop of a call knows. -/
def NxI (s : ByteArray) (p0 st0 : Nat) (aft0 : Option Nat) (b0 b1 b2 b3 b4 : Nat) (w : World) (p st : Nat) (aft : Option Nat) (wr : World) : Prop :=
  Sq wr b0 b1 b2 b3 b4 s (p : Int) (st : Int) aft.isSome ((aft.getD p : Nat) : Int) ∧ (∀ acc, nm s.data.toList p0 st0 aft0 acc = nm s.data.toList p st aft acc) ∧ Ahead p0 st0 p st ∧ Tr (SqB b1 b2 b3 b4) w wr ∧ (p : Int) ≤ 9223372036854775807
theorem Sq.at {w : World} {b0 b1 b2 b3 b4 : Nat} {s : ByteArray} {p st : Int} {pd : Bool} {af : Int} (h : Sq w b0 b1 b2 b3 b4 s p st pd af) (v : Int) : Sq (w.setCell ⟨b1, 0, none⟩ (.int .i64 v)) b0 b1 b2 b3 b4 s v st pd af :=
  ⟨h.c0.other h.d.1 _, h.c1.set _, h.c2.other h.d.2.2.2.2.1.symm _, h.c3.other h.d.2.2.2.2.2.1.symm _, h.c4.other h.d.2.2.2.2.2.2.1.symm _, h.d⟩
theorem Sq.start {w : World} {b0 b1 b2 b3 b4 : Nat} {s : ByteArray} {p st : Int} {pd : Bool} {af : Int} (h : Sq w b0 b1 b2 b3 b4 s p st pd af) (v : Int) : Sq (w.setCell ⟨b2, 0, none⟩ (.int .i64 v)) b0 b1 b2 b3 b4 s p v pd af :=
  ⟨h.c0.other h.d.2.1 _, h.c1.other h.d.2.2.2.2.1 _, h.c2.set _, h.c3.other h.d.2.2.2.2.2.2.2.1.symm _, h.c4.other h.d.2.2.2.2.2.2.2.2.1.symm _, h.d⟩
theorem Sq.pointed {w : World} {b0 b1 b2 b3 b4 : Nat} {s : ByteArray} {p st : Int} {pd : Bool} {af : Int} (h : Sq w b0 b1 b2 b3 b4 s p st pd af) (v : Bool) : Sq (w.setCell ⟨b3, 0, none⟩ (.bool v)) b0 b1 b2 b3 b4 s p st v af :=
  ⟨h.c0.other h.d.2.2.1 _, h.c1.other h.d.2.2.2.2.2.1 _, h.c2.other h.d.2.2.2.2.2.2.2.1 _, h.c3.set _, h.c4.other h.d.2.2.2.2.2.2.2.2.2.symm _, h.d⟩
theorem Sq.after {w : World} {b0 b1 b2 b3 b4 : Nat} {s : ByteArray} {p st : Int} {pd : Bool} {af : Int} (h : Sq w b0 b1 b2 b3 b4 s p st pd af) (v : Int) : Sq (w.setCell ⟨b4, 0, none⟩ (.int .i64 v)) b0 b1 b2 b3 b4 s p st pd v :=
  ⟨h.c0.other h.d.2.2.2.1 _, h.c1.other h.d.2.2.2.2.2.2.1 _, h.c2.other h.d.2.2.2.2.2.2.2.2.1 _, h.c3.other h.d.2.2.2.2.2.2.2.2.2 _, h.c4.set _, h.d⟩
theorem Sq.below {w w' : World} {b0 b1 b2 b3 b4 : Nat} {s : ByteArray} {p st : Int} {pd : Bool} {af : Int} (h : Sq w b0 b1 b2 b3 b4 s p st pd af) (hb : Below w.heap.size w w') : Sq w' b0 b1 b2 b3 b4 s p st pd af :=
  ⟨(hb.block _ h.c0.lt).trans h.c0, (hb.block _ h.c1.lt).trans h.c1, (hb.block _ h.c2.lt).trans h.c2, (hb.block _ h.c3.lt).trans h.c3, (hb.block _ h.c4.lt).trans h.c4, h.d⟩
theorem Sq.drewN {w : World} {b0 b1 b2 b3 b4 : Nat} {s : ByteArray} {p st : Int} {pd : Bool} {af : Int} (h : Sq w b0 b1 b2 b3 b4 s p st pd af) (n : Nat) : Sq (w.drewN n) b0 b1 b2 b3 b4 s p st pd af := h.below (drewN_below w n)
theorem sqB1 (b1 b2 b3 b4 : Nat) : SqB b1 b2 b3 b4 b1 := .inl rfl
theorem sqB2 (b1 b2 b3 b4 : Nat) : SqB b1 b2 b3 b4 b2 := .inr (.inl rfl)
theorem sqB3 (b1 b2 b3 b4 : Nat) : SqB b1 b2 b3 b4 b3 := .inr (.inr (.inl rfl))
theorem sqB4 (b1 b2 b3 b4 : Nat) : SqB b1 b2 b3 b4 b4 := .inr (.inr (.inr rfl))
theorem nx_err {s : ByteArray} {p0 st0 : Nat} {aft0 : Option Nat} {b0 b1 b2 b3 b4 : Nat} {w : World} {p st : Nat} {aft : Option Nat} {wr wr' : World} (h : NxI s p0 st0 aft0 b0 b1 b2 b3 b4 w p st aft wr) (hb : Below wr.heap.size wr wr')
    (he : ∀ acc, nm s.data.toList p st aft acc = ([], 0, 10)) : NxP s p0 st0 aft0 b0 b1 b2 b3 b4 w (.returned (.tuple #[.string ⟨#[]⟩, .int .i64 0, .int .i64 10])) wr' :=
  ⟨.inl ⟨rfl, fun acc => (h.2.1 acc).trans (he acc)⟩, h.2.2.2.1.then (Tr.of_below hb)⟩
theorem Sq.cast {w : World} {b0 b1 b2 b3 b4 : Nat} {s : ByteArray} {p st p' st' : Int} {pd pd' : Bool} {af af' : Int} (h : Sq w b0 b1 b2 b3 b4 s p st pd af) (e1 : p = p') (e2 : st = st') (e3 : pd = pd') (e4 : af = af') : Sq w b0 b1 b2 b3 b4 s p' st' pd' af' := by
  subst e1 e2 e3 e4; exact h
theorem mark_mod (c d : Nat) (h : 192 ≤ c) (h2 : c < 256) (h3 : d < 256) : (c * 256 + d) % 16384 = (c - 192) * 256 + d := by omega
theorem two_mod {l : Bs} {p : Nat} (h : p + 1 < l.length) (hc : 192 ≤ (l.getD p 0).toNat) : numB (piS l p 2) % 16384 = ((l.getD p 0).toNat - 192) * 256 + (l.getD (p + 1) 0).toNat := by
  rw [piS_two h, numB_two, mark_mod _ _ hc (UInt8.toNat_lt _) (UInt8.toNat_lt _)]
theorem nm_nofollow {l : Bs} {p st : Nat} (hl : p < l.length) (hc : 192 ≤ (l.getD p 0).toNat) (h : ¬ (p + 1 < l.length ∧ numB (piS l p 2) % 16384 < st)) (aft : Option Nat) (acc : Bs) : nm l p st aft acc = ([], 0, 10) := by
  by_cases h1 : p + 1 < l.length
  · exact nm_far _ _ _ _ _ hl hc h1 (by rw [← two_mod h1 hc]; exact fun h2 => h ⟨h1, h2⟩)
  · exact nm_short _ _ _ _ _ hl hc h1
theorem nm_follow {l : Bs} {p st t : Nat} (hc : 192 ≤ (l.getD p 0).toNat) (h1 : p + 1 < l.length) (ht : numB (piS l p 2) % 16384 = t) (h2 : t < st) (aft : Option Nat) (acc : Bs) : nm l p st aft acc = nm l t t (some (aft.getD (p + 2))) acc :=
  nm_ptr _ _ _ _ _ (by omega) hc h1 t (by rw [← two_mod h1 hc]; exact ht) h2
theorem get_at (s : ByteArray) (p : Nat) (h : p < s.size) : s[p].toNat = (s.data.toList.getD p 0).toNat := by
  rw [get_list s p h, List.getD_eq_getElem?_getD, List.getElem?_eq_getElem (by rw [← size_list]; exact h)]; rfl
theorem ahead_lt {p0 st0 p st t : Nat} (h : Ahead p0 st0 p st) (h2 : t < st) : Ahead p0 st0 t t := by
  rcases h with ⟨rfl, _⟩ | h
  · exact .inr h2
  · exact .inr (by omega)
theorem nx_ptr {s : ByteArray} {p0 st0 : Nat} {aft0 : Option Nat} {b0 b1 b2 b3 b4 : Nat} {w : World} {p st t : Nat} {aft : Option Nat} {wr wr' : World} (h : NxI s p0 st0 aft0 b0 b1 b2 b3 b4 w p st aft wr)
    (hc : 192 ≤ (s.data.toList.getD p 0).toNat) (h1 : p + 1 < s.data.toList.length) (ht : numB (piS s.data.toList p 2) % 16384 = t) (h2 : t < st) (hq : Sq wr' b0 b1 b2 b3 b4 s (t : Int) (t : Int) true ((aft.getD (p + 2) : Nat) : Int)) (hT : Tr (SqB b1 b2 b3 b4) wr wr') :
    NxI s p0 st0 aft0 b0 b1 b2 b3 b4 w t t (some (aft.getD (p + 2))) wr' :=
  ⟨hq, fun acc => (h.2.1 acc).trans (nm_follow hc h1 ht h2 aft acc), ahead_lt h.2.2.1 h2, h.2.2.2.1.then hT, by omega⟩
theorem nx_lab {s : ByteArray} {p0 st0 : Nat} {aft0 : Option Nat} {b0 b1 b2 b3 b4 : Nat} {w : World} {p st c : Nat} {aft : Option Nat} {wr wr' : World} (h : NxI s p0 st0 aft0 b0 b1 b2 b3 b4 w p st aft wr)
    (hl : p < s.data.toList.length) (hc : c = (s.data.toList.getD p 0).toNat) (h1 : c ≤ 63) (h2 : p + 1 + c ≤ s.data.toList.length) {v : Int} (hv : v = ((aft.getD (p + 1 + c) : Nat) : Int)) (hq : Sq wr' b0 b1 b2 b3 b4 s ((p + 1 + c : Nat) : Int) (st : Int) aft.isSome v) (hT : Tr (SqB b1 b2 b3 b4) wr wr') :
    NxP s p0 st0 aft0 b0 b1 b2 b3 b4 w (.returned (.tuple #[str ((s.data.toList.drop p).take (1 + c)), .int .i64 v, .int .i64 0])) wr' := by
  subst hv
  exact ⟨.inr ⟨p, st, aft, c, rfl, hl, hc.symm, h1, h2, hq, h.2.1, h.2.2.1⟩, h.2.2.2.1.then hT⟩
set_option maxRecDepth 100000 in
set_option maxHeartbeats 8000000 in
theorem next_any (s : ByteArray) (hs : s.size ≤ 140737488351232) (p0 st0 : Nat) (aft0 : Option Nat) (b0 b1 b2 b3 b4 : Nat) (w : World)
    (h : Sq w b0 b1 b2 b3 b4 s (p0 : Int) (st0 : Int) aft0.isSome ((aft0.getD p0 : Nat) : Int)) (hp0 : (p0 : Int) ≤ 9223372036854775807) :
    Calls Try.prog 117 #[ptr b0, ptr b1, ptr b2, ptr b3, ptr b4] w (NxP s p0 st0 aft0 b0 b1 b2 b3 b4 w) := by
  have H := Lib.hid h
  clear h
  go_enter Try.func117, Try.ntmps117
  go_wp2
  go_loopg [8] st0 (fun gk _ wr => ∃ (p st : Nat) (aft : Option Nat), st = gk ∧ NxI s p0 st0 aft0 b0 b1 b2 b3 b4 w p st aft wr)
  case atStart => exact ⟨p0, st0, aft0, rfl, H.out, fun _ => rfl, .inl ⟨rfl, rfl⟩, Tr.refl _ _, hp0⟩
  case round =>
    obtain ⟨p, st, aft, rfl, hI⟩ := hrel
    have hq := hI.1
    have hpb := hI.2.2.2.2
    have HI := Lib.hid hI
    have HS := Lib.hid (size_list s)
    have c0 := hq.c0.cell
    have c1 := hq.c1.cell
    have c2 := hq.c2.cell
    have c3 := hq.c3.cell
    have c4 := hq.c4.cell
    have f1 := hq.c1.frozen
    have f2 := hq.c2.frozen
    have f3 := hq.c3.frozen
    have f4 := hq.c4.frozen
    obtain ⟨d01, d02, d03, d04, d12, d13, d14, d23, d24, d34⟩ := hq.d
    clear hq hI
    by_cases hlt : p < s.size
    · have hl : p < s.data.toList.length := by rw [← HS.out]; exact hlt
      have C := byte_any s hs (p : Int) (by omega) wr
      obtain ⟨e1, e2, e3⟩ := pi_yes (s := s.data.toList) (piE_yes (a := (p : Int)) (n := 1) (by omega) (by omega) (by omega))
      unfold nuV at C
      rw [piS_one hl, numB_one, e2, e3] at C
      obtain ⟨c, hc⟩ : ∃ c, c = (s.data.toList.getD p 0).toNat := ⟨_, rfl⟩
      have hc8 : c < 256 := by rw [hc]; exact UInt8.toNat_lt _
      have hc8' : (c : Int) < 256 := by omega
      rw [← hc] at C
      have HC := Lib.hid C
      have HCC := Lib.hid hc
      have HL := Lib.hid hl
      clear C e1 e2 e3 hc hl
      by_cases g : 192 ≤ c
      · have q1 : decide ((c : Int) < 192) = false := by simp; omega
        by_cases hf : p + 1 < s.size ∧ numB (piS s.data.toList p 2) % 16384 < st
        · obtain ⟨hf1, hf2⟩ := hf
          obtain ⟨t, ht⟩ : ∃ t, numB (piS s.data.toList p 2) % 16384 = t := ⟨_, rfl⟩
          rw [ht] at hf2
          have HT := Lib.hid ht
          clear ht
          have ht1 : (t : Int) < 16384 := by have := HT.out; omega
          cases aft with
          | none =>
            go_wp2_with fail
            refine HC.out.mono ?_
            rintro e w' ⟨rfl, rfl⟩
            go_wp2_with (go_at_call 119; refine (follow_yes s hs p st t hf1 HT.out hf2 _).mono ?_; rintro e w' ⟨rfl, rfl⟩)
            go_roundg t
            case measure => exact hf2
            case rel => exact ⟨t, t, _, rfl, nx_ptr HI.out (by rw [← HCC.out]; exact g) (by rw [← HS.out]; exact hf1) HT.out hf2 (((((HI.out.1.after _).pointed _).at _).start _).cast rfl rfl rfl (by simp)) ((((Tr.refl _ _).setCell (.inl (sqB4 b1 b2 b3 b4)) _).setCell (.inl (sqB3 b1 b2 b3 b4)) _).setCell (.inl (sqB1 b1 b2 b3 b4)) _ |>.setCell (.inl (sqB2 b1 b2 b3 b4)) _)⟩
          | some q =>
            go_wp2_with fail
            refine HC.out.mono ?_
            rintro e w' ⟨rfl, rfl⟩
            go_wp2_with (go_at_call 119; refine (follow_yes s hs p st t hf1 HT.out hf2 _).mono ?_; rintro e w' ⟨rfl, rfl⟩)
            go_roundg t
            case measure => exact hf2
            case rel => exact ⟨t, t, _, rfl, nx_ptr HI.out (by rw [← HCC.out]; exact g) (by rw [← HS.out]; exact hf1) HT.out hf2 (((HI.out.1.at _).start _).cast rfl rfl rfl (by simp)) (((Tr.refl _ _).setCell (.inl (sqB1 b1 b2 b3 b4)) _).setCell (.inl (sqB2 b1 b2 b3 b4)) _)⟩
        · have HF := Lib.hid hf
          clear hf
          go_wp2_with fail
          refine HC.out.mono ?_
          rintro e w' ⟨rfl, rfl⟩
          go_wp2_with (go_at_call 119; refine (follow_no s hs p st (by omega) HF.out _).mono ?_; rintro e w' ⟨rfl, rfl⟩)
          go_ret3
          refine nx_err HI.out (Below.refl _ _) (fun acc => ?_)
          exact nm_nofollow HL.out (by rw [← HCC.out]; exact g) (by rw [← HS.out]; exact HF.out) _ _
      · have q1 : (c : Int) < 192 := by omega
        have hsp := get_at s p hlt
        rw [← HCC.out] at hsp
        by_cases g2 : 63 < c
        · have q2 : (63 : Int) < (c : Int) := by omega
          go_wp2_with fail
          refine HC.out.mono ?_
          rintro e w' ⟨rfl, rfl⟩
          go_wp2
          go_ret3
          refine nx_err HI.out (Below.refl _ _) (fun acc => ?_)
          exact nm_odd _ _ _ _ _ HL.out (by rw [← HCC.out]; omega) (by rw [← HCC.out]; omega)
        · have q2 : decide ((63 : Int) < (c : Int)) = false := by simp; omega
          have x1 : IntKind.i64.wrap (1 + (c : Int)) = 1 + (c : Int) := IntWalk.i64_in _ (by omega)
          by_cases g3 : p + 1 + c ≤ s.size
          · obtain ⟨e1, e2, e3⟩ := pi_yes (s := s.data.toList) (piE_yes (a := (p : Int)) (n := 1 + (c : Int)) (by omega) (by omega) (by have := HS.out; omega))
            have C2 := fun w => piece_any s hs (p : Int) (1 + (c : Int)) (by omega) (by omega) w
            unfold pcV at C2
            rw [e1, e2, e3, Int.toNat_natCast, show (1 + (c : Int)).toNat = 1 + c by omega] at C2
            have HC2 := Lib.hid C2
            clear C2 e1 e2 e3
            cases aft with
            | none =>
              go_wp2_with fail
              refine HC.out.mono ?_
              rintro e w' ⟨rfl, rfl⟩
              go_wp2
              go_quiet ((go_at_call 102; exact Calls.quiet_of_same ((HC2.out _).mono fun _ _ h => ⟨h.1, h.2.symm⟩)))
              go_wp2
              go_quiet (fail)
              go_wp2
              go_ret3
              exact nx_lab HI.out HL.out HCC.out (by omega) (by rw [← HS.out]; exact g3) (by simp; omega) ((((HI.out.1.drewN _).at _).after _).drewN _ |>.cast (by omega) rfl rfl rfl) ((((Tr.refl _ _).drewN _).setCell (.inl (sqB1 b1 b2 b3 b4)) _).setCell (.inl (sqB4 b1 b2 b3 b4)) _ |>.drewN _)
            | some q =>
              go_wp2_with fail
              refine HC.out.mono ?_
              rintro e w' ⟨rfl, rfl⟩
              go_wp2
              go_quiet ((go_at_call 102; exact Calls.quiet_of_same ((HC2.out _).mono fun _ _ h => ⟨h.1, h.2.symm⟩)))
              go_wp2
              go_quiet (fail)
              go_wp2
              go_ret3
              exact nx_lab HI.out HL.out HCC.out (by omega) (by rw [← HS.out]; exact g3) rfl (((HI.out.1.drewN _).at _).drewN _ |>.cast (by omega) rfl rfl rfl) (((Tr.refl _ _).drewN _).setCell (.inl (sqB1 b1 b2 b3 b4)) _ |>.drewN _)
          · obtain ⟨e1, e2, e3⟩ := pi_no (s := s.data.toList) (a := (p : Int)) (n := 1 + (c : Int)) (piE_no (by have := HS.out; omega))
            have C2 := fun w => piece_any s hs (p : Int) (1 + (c : Int)) (by omega) (by omega) w
            unfold pcV at C2
            rw [e1, e2, e3] at C2
            have HC2 := Lib.hid C2
            clear C2 e1 e2 e3
            go_wp2_with fail
            refine HC.out.mono ?_
            rintro e w' ⟨rfl, rfl⟩
            go_wp2
            go_quiet ((go_at_call 102; exact Calls.quiet_of_same ((HC2.out _).mono fun _ _ h => ⟨h.1, h.2.symm⟩)))
            go_wp2
            go_ret3
            refine nx_err HI.out (drewN_below _ _) (fun acc => ?_)
            exact nm_cut _ _ _ _ _ HL.out (by rw [← HCC.out]; omega) (by rw [← HCC.out]; omega) (by rw [← HCC.out, ← HS.out]; exact g3)
    · have C := byte_any s hs (p : Int) (by omega) wr
      obtain ⟨e1, e2, e3⟩ := pi_no (s := s.data.toList) (a := (p : Int)) (n := 1) (piE_no (by rw [← HS.out]; omega))
      unfold nuV at C
      rw [e1, e2, e3] at C
      have HC := Lib.hid C
      clear C e1 e2 e3
      go_wp2_with fail
      refine HC.out.mono ?_
      rintro e w' ⟨rfl, rfl⟩
      rw [show numB [] = 0 from rfl]
      go_wp2
      go_ret3
      exact nx_err HI.out (Below.refl _ _) (fun acc => nm_end _ _ _ _ _ (by rw [← HS.out]; exact hlt))
end Go.Proofs.Ytljfkjbagebncaa

/- Name -/
namespace Go.Proofs.Ytljfkjbagebncaa
open Go.RowKit
def mu (n st p : Nat) : Nat := st * (n + 2) + (n + 1 - p)
theorem mu_lt {n p st p' st' c : Nat} (h : Ahead p st p' st') (h1 : p' < n) (h2 : p' + 1 + c ≤ n) : mu n st' (p' + 1 + c) < mu n st p := by
  unfold mu
  rcases h with ⟨rfl, rfl⟩ | h
  · omega
  · have := Nat.mul_le_mul_right (n + 2) (show st' + 1 ≤ st by omega)
    rw [Nat.add_mul] at this
    omega
abbrev nmV (r : Res) : Value := .tuple #[str r.1, .int .i64 (r.2.1 : Int), .int .i64 (r.2.2 : Int)]
set_option maxRecDepth 100000 in
set_option maxHeartbeats 8000000 in
theorem next_neg (s : ByteArray) (hs : s.size ≤ 140737488351232) (a : Int) (ha : -9223372036854775808 ≤ a ∧ a < 0) (b0 b1 b2 b3 b4 : Nat) (w : World)
    (h0 : Boxed w b0 9 (.string s)) (h1 : Boxed w b1 3 (.int .i64 a)) :
    Calls Try.prog 117 #[ptr b0, ptr b1, ptr b2, ptr b3, ptr b4] w fun e w' => e = .returned (.tuple #[.string ⟨#[]⟩, .int .i64 0, .int .i64 10]) ∧ w = w' := by
  have c0 := h0.cell
  have c1 := h1.cell
  have C := byte_any s hs a (by omega) w
  obtain ⟨e1, e2, e3⟩ := pi_no (s := s.data.toList) (a := a) (n := 1) (piE_no (by omega))
  unfold nuV at C
  rw [e1, e2, e3] at C
  have HC := Lib.hid C
  clear C e1 e2 e3 h0 h1
  go_enter Try.func117, Try.ntmps117
  go_wp2
  go_loopg [8] 0 (fun _ _ wr => w = wr)
  case atStart => rfl
  case round =>
    obtain rfl := hrel
    go_wp2_with fail
    refine HC.out.mono ?_
    rintro e w' ⟨rfl, rfl⟩
    rw [show numB [] = 0 from rfl]
    go_wp2
    go_ret3
    exact ⟨rfl, rfl⟩
set_option maxRecDepth 100000 in
set_option maxHeartbeats 8000000 in
theorem name_neg (s : ByteArray) (hs : s.size ≤ 140737488351232) (a : Int) (ha : -9223372036854775808 ≤ a ∧ a < 0) (w : World) :
    Calls Try.prog 70 #[.string s, .int .i64 a] w fun e w' => e = .returned (nmV ([], 0, 10)) ∧ Below w.heap.size w w' := by
  go_enter Try.func70, Try.ntmps70
  go_wp2_with fail
  refine (seq_any s a w).mono ?_
  rintro e w1 ⟨b2, b3, b4, rfl, hq, _, _, _, hb⟩
  have HQ := Lib.hid hq
  clear hq
  go_wp2
  go_loopg [8] 0 (fun _ v wr => v = .slice none 0 0 ∧ w1 = wr)
  case atStart => exact ⟨rfl, rfl⟩
  case round =>
    obtain ⟨rfl, rfl⟩ := hrel
    go_wp2_with fail
    refine (next_neg s hs a ha _ _ _ _ _ _ HQ.out.c0 HQ.out.c1).mono ?_
    rintro e w' ⟨rfl, rfl⟩
    go_wp2
    go_ret3
    exact ⟨rfl, hb⟩
theorem take_lab {l : Bs} {p c : Nat} (h2 : p + 1 + c ≤ l.length) : ((l.drop p).take (1 + c)).length = 1 + c := by simp; omega
theorem take_root {l : Bs} {p : Nat} (h : p < l.length) (hc : (l.getD p 0).toNat = 0) : (l.drop p).take (1 + 0) = [0] := by
  have e := piS_one h
  rw [(pi_yes (piE_yes (by omega) (by omega) (by omega))).1, Int.toNat_natCast] at e
  rw [show (1 + 0 : Nat) = (1 : Int).toNat from rfl, e]
  have : l.getD p 0 = 0 := UInt8.toNat_inj.1 (by simpa using hc)
  rw [this]
theorem name_err {r : Res} {k : Nat} (h : r = ([], 0, k)) : Ending.returned (.tuple #[.string ⟨#[]⟩, .int .i64 0, .int .i64 (k : Int)]) = .returned (nmV r) := by rw [h]; rfl
theorem name_ok {r : Res} {a : Bs} {q : Nat} {t : ByteArray} {v : Int} (h : r = (a, q, 0)) (ht : t.data.toList = a) (hv : v = (q : Int)) : Ending.returned (.tuple #[.string t, .int .i64 v, .int .i64 0]) = .returned (nmV r) := by
  rw [h, ← ht, hv]; rfl
/-- What the loop of Name knows. -/
def NaI (s : ByteArray) (p0 : Nat) (b0 b1 b2 b3 b4 : Nat) (w : World) (k : Nat) (v : Value) (wr : World) : Prop :=
  ∃ (p st : Nat) (aft : Option Nat) (acc : Bs), mu s.data.toList.length st p = k ∧ Sq wr b0 b1 b2 b3 b4 s (p : Int) (st : Int) aft.isSome ((aft.getD p : Nat) : Int) ∧ wr.ownsRow w.heap.size 5 1 v acc.length (ub acc) ∧
    nm s.data.toList p0 p0 none [] = nm s.data.toList p st aft acc ∧ acc.length ≤ 254 ∧ (p : Int) ≤ 9223372036854775807 ∧ Below w.heap.size w wr
theorem sq_row {w : World} {b0 b1 b2 b3 b4 : Nat} {s : ByteArray} {p st : Int} {pd : Bool} {af : Int} (h : Sq w b0 b1 b2 b3 b4 s p st pd af) {base k : Nat} {v : Value} {xs : List Value} (hr : w.ownsRow base 5 1 v k xs) : ∀ j, v.ownBlock = some j → ¬ SqB b1 b2 b3 b4 j := by
  intro j hj hs
  have n1 := h.c1.not_row (e := 5) (by decide) hr
  have n2 := h.c2.not_row (e := 5) (by decide) hr
  have n3 := h.c3.not_row (e := 5) (by decide) hr
  have n4 := h.c4.not_row (e := 5) (by decide) hr
  rw [hj] at n1 n2 n3 n4
  rcases hs with rfl | rfl | rfl | rfl
  · exact n1 rfl
  · exact n2 rfl
  · exact n3 rfl
  · exact n4 rfl
theorem sq_row0 {w : World} {b0 b1 b2 b3 b4 : Nat} {s : ByteArray} {p st : Int} {pd : Bool} {af : Int} (h : Sq w b0 b1 b2 b3 b4 s p st pd af) {w' : World} {row : Option Nat} (hg : w.grownBy w' row) {base k : Nat} {v : Value} {xs : List Value} (hr : w.ownsRow base 5 1 v k xs) (hrow : row = v.ownBlock) : Sq w' b0 b1 b2 b3 b4 s p st pd af := by
  subst hrow
  exact ⟨h.c0.kept hg (h.c0.not_row (by decide) hr), h.c1.kept hg (h.c1.not_row (by decide) hr), h.c2.kept hg (h.c2.not_row (by decide) hr), h.c3.kept hg (h.c3.not_row (by decide) hr), h.c4.kept hg (h.c4.not_row (by decide) hr), h.d⟩
set_option maxRecDepth 100000 in
set_option maxHeartbeats 8000000 in
theorem name_pos (s : ByteArray) (hs : s.size ≤ 140737488351232) (p0 : Nat) (hp0 : (p0 : Int) ≤ 9223372036854775807) (w : World) :
    Calls Try.prog 70 #[.string s, .int .i64 (p0 : Int)] w fun e w' => e = .returned (nmV (nm s.data.toList p0 p0 none [])) ∧ Below w.heap.size w w' := by
  obtain ⟨R, hR⟩ : ∃ R, R = nm s.data.toList p0 p0 none [] := ⟨_, rfl⟩
  rw [← hR]
  have HR := Lib.hid hR
  have HS := Lib.hid (size_list s)
  clear hR
  obtain ⟨i0, hi, hz0, hz1, hz2⟩ := info_parts info5
  go_enter Try.func70, Try.ntmps70
  go_wp2_with fail
  refine (seq_any s (p0 : Int) w).mono ?_
  rintro e w1 ⟨b2, b3, b4, rfl, hq, hb2, hb3, hb4, hb⟩
  obtain ⟨B0, hB0⟩ : ∃ B0, B0 = w.heap.size := ⟨_, rfl⟩
  obtain ⟨B1, hB1⟩ : ∃ B1, B1 = w.heap.size + 1 := ⟨_, rfl⟩
  have hb1 : w.heap.size ≤ B1 := by omega
  rw [← hB1, ← hB0] at hq
  have hT : ∀ k, SqB B1 b2 b3 b4 k → w.heap.size ≤ k := by
    intro k hk
    rcases hk with rfl | rfl | rfl | rfl
    · exact hb1
    · exact hb2
    · exact hb3
    · exact hb4
  have HT := Lib.hid hT
  have HQ := Lib.hid hq
  rw [show ptr w.heap.size = ptr B0 by rw [hB0], show ptr (w.heap.size + 1) = ptr B1 by rw [hB1]]
  clear hq hT hb1 hb2 hb3 hb4 hB0 hB1
  go_wp2
  go_loopg [8] (mu s.data.toList.length p0 p0) (fun k v wr => NaI s p0 B0 B1 b2 b3 b4 w k v wr)
  case atStart => exact ⟨p0, p0, none, [], rfl, HQ.out, World.ownsRow_nil _ _ _ _, rfl, by decide, hp0, hb⟩
  case round =>
    obtain ⟨p, st, aft, acc, hmu, hq, hrow, hnm, hacc, hp, hbr⟩ := hrel
    have HQ2 := Lib.hid hq
    have HROW := Lib.hid hrow
    have HNM := Lib.hid hnm
    have HMU := Lib.hid hmu
    have HB := Lib.hid hbr
    have hsz := hbr.size
    clear hq hrow hnm hmu hbr
    go_wp2_with fail
    refine (next_any s hs p st aft _ _ _ _ _ _ HQ2.out hp).mono ?_
    rintro e w2 ⟨h | h, hT2⟩
    · obtain ⟨rfl, herr⟩ := h
      have hb2 := HB.out.trans (hT2.below hsz HT.out)
      have HE := Lib.hid (HNM.out.trans (herr acc))
      clear herr
      go_wp2
      go_ret3
      exact ⟨name_err (k := 10) (HR.out.trans HE.out), hb2⟩
    · obtain ⟨p', st', aft', c, rfl, hl, hc, hc63, hlen, hq2, hnm2, hah⟩ := h
      have hb2 := HB.out.trans (hT2.below hsz HT.out)
      have hrow2 := hT2.row HROW.out (sq_row HQ2.out HROW.out)
      have hw2 : w.heap.size ≤ w2.heap.size := Nat.le_trans hsz hT2.size
      have HN2 := Lib.hid (HR.out.trans (HNM.out.trans (hnm2 acc)))
      have HQ3 := Lib.hid hq2
      have HB2 := Lib.hid hb2
      obtain ⟨a, cap, rfl⟩ := row_slice hrow2
      have HR2 := Lib.hid hrow2
      obtain ⟨q, hqd⟩ : ∃ q : Nat, q = aft'.getD (p' + 1 + c) := ⟨_, rfl⟩
      rw [← hqd]
      have HQD := Lib.hid hqd
      have HC := Lib.hid hc
      have HL := Lib.hid hl
      have hmu2 := mu_lt hah hl hlen
      rw [HMU.out] at hmu2
      have HM2 := Lib.hid hmu2
      have HLEN := Lib.hid hlen
      clear hq2 hnm2 hah hb2 hrow2 hqd hc hl hmu2 hlen hsz
      by_cases g : c = 0
      · subst g
        have hconv := row_back HR2.out
        have hadd := run_string_add_sum (P := Try.prog) w2 ⟨acc.toArray⟩ ⟨#[0]⟩ (by rw [size_list]; show acc.length + 1 ≤ _; omega)
        have hres := HN2.out.trans (nm_zero _ _ _ _ _ HL.out HC.out)
        have HRES := Lib.hid hres
        rw [take_root HL.out HC.out]
        clear hres
        go_wp2
        go_ret3
        exact ⟨name_ok HRES.out (by simp) (by rw [HQD.out]), HB2.out⟩
      · have hc0 : ¬ (s.data.toList.getD p' 0).toNat = 0 := by rw [HC.out]; exact g
        obtain ⟨tt, htt⟩ : ∃ tt : ByteArray, tt = ⟨((s.data.toList.drop p').take (1 + c)).toArray⟩ := ⟨_, rfl⟩
        have htl : tt.data.toList = (s.data.toList.drop p').take (1 + c) := by rw [htt]
        have hts : tt.size = 1 + c := by rw [size_list, htl, take_lab HLEN.out]
        rw [show str ((s.data.toList.drop p').take (1 + c)) = .string tt by rw [htt]]
        have q1 : (tt.toList == [0]) = false := by
          rw [ByteArray.toList_eq, beq_eq_false_iff_ne]
          intro h
          have := congrArg List.length h
          rw [← size_list, hts] at this
          simp at this; omega
        have q1' : (tt.data.toList == [0]) = false := by rw [← ByteArray.toList_eq]; exact q1
        have q2 : (tt.size : Int) = 1 + (c : Int) := by omega
        have HTL := Lib.hid htl
        have HTS := Lib.hid hts
        clear htl hts htt
        by_cases g2 : acc.length + 1 + c + 1 ≤ 255
        · have hres := HN2.out.trans (nm_lab _ _ _ _ _ HL.out hc0 (by rw [HC.out]; exact hc63) (by rw [HC.out]; exact HLEN.out) (by rw [HC.out]; exact g2))
          rw [HC.out] at hres
          have HRES := Lib.hid hres
          clear hres hc0
          have q3 : decide ((255 : Int) < (acc.length : Int) + (1 + (c : Int)) + 1) = false := by simp; omega
          obtain ⟨k, hk⟩ : ∃ k, k = acc.length := ⟨_, rfl⟩
          rw [← hk] at q3 g2 hacc HR2 ⊢
          have HK := Lib.hid hk
          have hka : (k : Int) ≤ 254 := by omega
          clear hk
          have QQ2 := Lib.hid q2
          go_wp2_with (at_builtin; refine Lib.wpList_append_own_string _ rfl (.tmp 37) (.tmp 38) 47 9 rfl w.heap.size 5 i0 Try.underlying47 Try.underlying9 hi hz0 hz1 hz2 _ k _ rfl HR2.out tt rfl ?c4 ?c5 ?c6 ?_)
          case c4 => have := HTS.out; unfold maxLen; omega
          case c5 => have := HTS.out; omega
          case c6 => exact hw2
          intro v2 w3 hown hgrow _
          have hq3 := sq_row0 HQ3.out hgrow HR2.out rfl
          have hb3 : Below w.heap.size w w3 := HB2.out.grown hgrow hw2 (row_from HR2.out)
          rw [HTS.out, HK.out] at hown
          have HQ4 := Lib.hid hq3
          have HB3 := Lib.hid hb3
          have HO := Lib.hid hown
          clear hq3 hb3 hown hgrow
          go_wp2
          go_roundg (mu s.data.toList.length st' (p' + 1 + c))
          case measure => exact HM2.out
          case rel =>
            refine ⟨p' + 1 + c, st', aft', acc ++ (s.data.toList.drop p').take (1 + c), rfl, HQ4.out, ?_, HR.out.symm.trans HRES.out, ?_, ?_, HB3.out⟩
            · rw [List.length_append, take_lab HLEN.out, ub, List.map_append]
              have := HO.out
              rw [Lib.strCells, HTL.out] at this
              exact this
            · rw [List.length_append, take_lab HLEN.out, ← HK.out]; omega
            · have := HLEN.out; rw [← HS.out] at this; omega
        · have hres := HN2.out.trans (nm_long _ _ _ _ _ HL.out hc0 (by rw [HC.out]; exact hc63) (by rw [HC.out]; exact HLEN.out) (by rw [HC.out]; exact g2))
          have HRES := Lib.hid hres
          clear hres hc0
          have q3 : decide ((255 : Int) < (acc.length : Int) + (1 + (c : Int)) + 1) = true := by simp; omega
          go_wp2
          go_ret3
          exact ⟨name_err (k := 11) HRES.out, HB2.out⟩
/-- THE NAME THAT IS READ: for every text and every place. -/
theorem name_any (s : ByteArray) (hs : s.size ≤ 140737488351232) (a : Int) (ha : -9223372036854775808 ≤ a ∧ a ≤ 9223372036854775807) (w : World) :
    Calls Try.prog 70 #[.string s, .int .i64 a] w fun e w' => e = .returned (nmV (nmI s.data.toList a)) ∧ Below w.heap.size w w' := by
  by_cases h : a < 0
  · have e : nmI s.data.toList a = ([], 0, 10) := by unfold nmI; rw [if_pos h]
    rw [e]
    exact name_neg s hs a ⟨ha.1, h⟩ w
  · obtain ⟨p, rfl⟩ := Int.eq_ofNat_of_zero_le (show 0 ≤ a by omega)
    have e : nmI s.data.toList (p : Int) = nm s.data.toList p p none [] := by unfold nmI; rw [if_neg h, Int.toNat_natCast]
    rw [e]
    exact name_pos s hs p ha.2 w
end Go.Proofs.Ytljfkjbagebncaa

/- RName -/
namespace Go.Proofs.Ytljfkjbagebncaa
open Go.RowKit
theorem mu_ptr {n p st t : Nat} (h : t < st) : mu n t t < mu n st p := by
  unfold mu
  have := Nat.mul_le_mul_right (n + 2) (show t + 1 ≤ st by omega)
  rw [Nat.add_mul] at this
  omega
theorem int_i64 {a b : Int} (h : a = b) : Value.int .i64 a = .int .i64 b := by rw [h]
theorem mkE_is {ls : List Bs} (h : ∀ x ∈ ls, OkL x) (h2 : (enc ls).length ≤ 254) : mkE ls = 0 := by
  unfold mkE; rw [if_pos h, if_neg (by omega)]
theorem mk_few {ls : List Bs} (h : ∀ x ∈ ls, OkL x) (h2 : (enc ls).length ≤ 254) : ls.length ≤ 1000000 ∧ ∀ x ∈ ls, x.length ≤ 1000000 :=
  ⟨by have := length_le_enc ls; omega, fun x hx => by have := (h x hx).2; omega⟩
theorem lab_bytes {l : Bs} {p c : Nat} (h : p < l.length) (hc : (l.getD p 0).toNat = c) (h2 : p + 1 + c ≤ l.length) : (l.drop p).take (1 + c) = enc1 ((l.drop (p + 1)).take c) := by
  rw [List.drop_eq_getElem_cons h, Nat.add_comm, List.take_succ_cons]
  unfold enc1
  have e : ((l.drop (p + 1)).take c).length = c := by simp; omega
  rw [e]
  congr 1
  apply UInt8.toNat_inj.1
  have e2 : l.getD p 0 = l[p] := by simp [h]
  rw [e2] at hc
  have := UInt8.toNat_lt l[p]
  simp; omega
theorem lab_ok {l : Bs} {p c : Nat} (h2 : p + 1 + c ≤ l.length) (h0 : c ≠ 0) (h63 : c ≤ 63) : OkL ((l.drop (p + 1)).take c) := by
  have e : ((l.drop (p + 1)).take c).length = c := by simp; omega
  unfold OkL; omega
/-- What stands for the place behind the first pointer. -/
def nxI : Option Nat → Int
  | none => -1
  | some q => (q : Int)
/-- What the document's loop knows. -/
def RnI (s : ByteArray) (p0 : Nat) (w : World) (k : Nat) (a v z n g : Value) (wr : World) : Prop :=
  ∃ (p st : Nat) (aft : Option Nat) (ls : List Bs), mu s.data.toList.length st p = k ∧ a = .int .i64 (p : Int) ∧ Own9 wr w.heap.size v ls ∧ z = .int .i64 (((enc ls).length : Int) + 1) ∧ n = .int .i64 (nxI aft) ∧ g = .int .i64 (st : Int) ∧
    nm s.data.toList p0 p0 none [] = nm s.data.toList p st aft (enc ls) ∧ (∀ x ∈ ls, OkL x) ∧ (enc ls).length ≤ 254 ∧ (p : Int) ≤ 9223372036854775807 ∧ (st : Int) ≤ 9223372036854775807 ∧ (∀ q, aft = some q → (q : Int) ≤ 9223372036854775807) ∧ Below w.heap.size w wr
set_option maxRecDepth 100000 in
set_option maxHeartbeats 8000000 in
theorem rname_neg (s : ByteArray) (hs : s.size ≤ 140737488351232) (a : Int) (ha : -9223372036854775808 ≤ a ∧ a < 0) (w : World) :
    Calls Try.prog 38 #[.string s, .int .i64 a] w fun e w' => e = .returned (nmV ([], 0, 10)) ∧ w = w' := by
  have C := rnumber_any s hs a 1 (by omega) (by omega) w
  obtain ⟨e1, e2, e3⟩ := pi_no (s := s.data.toList) (a := a) (n := 1) (piE_no (by omega))
  unfold nuV at C
  rw [e1, e2, e3] at C
  have HC := Lib.hid C
  clear C e1 e2 e3
  go_enter Try.func38, Try.ntmps38
  go_wp2
  go_loopg [1, 7] 0 (fun _ b _ wr => b = .int .i64 a ∧ w = wr)
  case atStart => exact ⟨rfl, rfl⟩
  case round =>
    obtain ⟨rfl, rfl⟩ := hrel
    go_wp2_with fail
    refine HC.out.mono ?_
    rintro e w' ⟨rfl, rfl⟩
    rw [show numB [] = 0 from rfl]
    go_wp2
    go_ret3
    exact ⟨rfl, rfl⟩
set_option maxRecDepth 100000 in
set_option maxHeartbeats 8000000 in
theorem rname_pos (s : ByteArray) (hs : s.size ≤ 140737488351232) (p0 : Nat) (hp0 : (p0 : Int) ≤ 9223372036854775807) (w : World) :
    Calls Try.prog 38 #[.string s, .int .i64 (p0 : Int)] w fun e w' => e = .returned (nmV (nm s.data.toList p0 p0 none [])) ∧ Below w.heap.size w w' := by
  obtain ⟨R, hR⟩ : ∃ R, R = nm s.data.toList p0 p0 none [] := ⟨_, rfl⟩
  rw [← hR]
  have HR := Lib.hid hR
  have HS := Lib.hid (size_list s)
  clear hR
  obtain ⟨i0, hi, hz0, hz1, hz2⟩ := info_parts info9
  go_enter Try.func38, Try.ntmps38
  go_wp2
  go_loopg [1, 7, 8, 9, 10] (mu s.data.toList.length p0 p0) (fun k a v z n g wr => RnI s p0 w k a v z n g wr)
  case atStart => exact ⟨p0, p0, none, [], rfl, rfl, own9_nil _ _, rfl, rfl, rfl, rfl, by simp, by decide, hp0, hp0, by simp, Below.refl _ _⟩
  case round =>
    obtain ⟨p, st, aft, ls, hmu, rfl, hown, rfl, rfl, rfl, hnm, hok, hacc, hp, hst, haft, hbr⟩ := hrel
    have HNM := Lib.hid (HR.out.trans hnm)
    have HO := Lib.hid hown
    have HMU := Lib.hid hmu
    have HB := Lib.hid hbr
    have HOK := Lib.hid hok
    have hsz := hbr.size
    clear hmu hown hnm hok hbr
    by_cases hlt : p < s.size
    · have hl : p < s.data.toList.length := by rw [← HS.out]; exact hlt
      have C := rnumber_any s hs (p : Int) 1 (by omega) (by omega) wr
      obtain ⟨e1, e2, e3⟩ := pi_yes (s := s.data.toList) (piE_yes (a := (p : Int)) (n := 1) (by omega) (by omega) (by omega))
      unfold nuV at C
      rw [piS_one hl, numB_one, e2, e3] at C
      obtain ⟨c, hc⟩ : ∃ c, c = (s.data.toList.getD p 0).toNat := ⟨_, rfl⟩
      have hc8 : c < 256 := by rw [hc]; exact UInt8.toNat_lt _
      have hc8' : (c : Int) < 256 := by omega
      rw [← hc] at C
      have HC := Lib.hid C
      have HCC := Lib.hid hc
      have HL := Lib.hid hl
      clear C e1 e2 e3 hc hl
      obtain ⟨nx, hnx⟩ : ∃ nx, nx = nxI aft := ⟨_, rfl⟩
      rw [← hnx]
      have HNX := Lib.hid hnx
      clear hnx
      have HACC := Lib.hid hacc
      have HAFT := Lib.hid haft
      clear haft
      by_cases g0 : c = 0
      · have E := Lib.hid (HNM.out.trans (nm_zero _ _ _ _ _ HL.out (by rw [← HCC.out]; exact g0)))
        have hm := mkE_is HOK.out HACC.out
        have HM := Lib.hid hm
        have M := rmake_any _ ls wr HO.out.rd (mk_few HOK.out HACC.out).1 (mk_few HOK.out HACC.out).2
        rw [mkS_zero hm, hm] at M
        have HMM := Lib.hid M
        clear hm M hacc
        subst g0
        cases aft with
        | none =>
          obtain rfl : nx = -1 := HNX.out
          go_wp2_with fail
          refine HC.out.mono ?_
          rintro e w' ⟨rfl, rfl⟩
          go_wp2_with fail
          refine HMM.out.mono ?_
          rintro e w2 ⟨rfl, hb2⟩
          go_wp2
          go_ret3
          exact ⟨name_ok E.out rfl (by simp), HB.out.trans (hb2.mono hsz)⟩
        | some q =>
          obtain rfl : nx = (q : Int) := HNX.out
          have qn : decide ((q : Int) < 0) = false := by simp
          go_wp2_with fail
          refine HC.out.mono ?_
          rintro e w' ⟨rfl, rfl⟩
          go_wp2_with fail
          refine HMM.out.mono ?_
          rintro e w2 ⟨rfl, hb2⟩
          go_wp2
          go_ret3
          exact ⟨name_ok E.out rfl (by simp), HB.out.trans (hb2.mono hsz)⟩
      · have q0 : ((c : Int) == 0) = false := by simp; omega
        by_cases g : 192 ≤ c
        · have q1 : (192 : Int) ≤ (c : Int) := by omega
          have C2 := rnumber_any s hs (p : Int) 2 (by omega) (by omega) wr
          unfold nuV at C2
          by_cases h1 : p + 1 < s.size
          · have h1' : p + 1 < s.data.toList.length := by rw [← HS.out]; exact h1
            obtain ⟨e1, e2, e3⟩ := pi_yes (s := s.data.toList) (piE_yes (a := (p : Int)) (n := 2) (by omega) (by omega) (by omega))
            obtain ⟨t, ht⟩ : ∃ t, ((s.data.toList.getD p 0).toNat - 192) * 256 + (s.data.toList.getD (p + 1) 0).toNat = t := ⟨_, rfl⟩
            have hd := UInt8.toNat_lt (s.data.toList.getD (p + 1) 0)
            have hx : (numB (piS s.data.toList (p : Int) 2) : Int) = (t : Int) + 49152 := by
              rw [piS_two h1', numB_two, ← ht, ← HCC.out]; omega
            have ht1 : (t : Int) < 16384 := by rw [← HCC.out] at ht; omega
            rw [hx, e2, e3] at C2
            have HC2 := Lib.hid C2
            have HT := Lib.hid ht
            have H1 := Lib.hid h1'
            clear C2 e1 e2 e3 hx ht hd h1'
            by_cases g3 : t < st
            · have q3 : decide ((st : Int) ≤ (t : Int)) = false := by simp; omega
              have q3' : decide (st ≤ t) = false := by simp; omega
              have E := Lib.hid (HNM.out.trans (nm_ptr _ _ _ _ _ HL.out (by rw [← HCC.out]; exact g) H1.out t HT.out g3))
              have hmu2 := mu_ptr (n := s.data.toList.length) (p := p) g3
              rw [HMU.out] at hmu2
              have HM2 := Lib.hid hmu2
              clear hmu2
              cases aft with
              | none =>
                obtain rfl : nx = -1 := HNX.out
                go_wp2_with fail
                refine HC.out.mono ?_
                rintro e w' ⟨rfl, rfl⟩
                go_wp2_with fail
                refine HC2.out.mono ?_
                rintro e w' ⟨rfl, rfl⟩
                go_wp2
                go_roundg (mu s.data.toList.length t t)
                case measure => exact HM2.out
                case rel => exact ⟨t, t, _, ls, rfl, rfl, HO.out, rfl, by simp [nxI], rfl, HR.out.symm.trans E.out, HOK.out, HACC.out, by omega, by omega, fun q hq => by simp at hq; omega, HB.out⟩
              | some q =>
                obtain rfl : nx = (q : Int) := HNX.out
                have qn : decide ((q : Int) < 0) = false := by simp
                go_wp2_with fail
                refine HC.out.mono ?_
                rintro e w' ⟨rfl, rfl⟩
                go_wp2_with fail
                refine HC2.out.mono ?_
                rintro e w' ⟨rfl, rfl⟩
                go_wp2
                go_roundg (mu s.data.toList.length t t)
                case measure => exact HM2.out
                case rel => exact ⟨t, t, _, ls, rfl, rfl, HO.out, rfl, by simp [nxI], rfl, HR.out.symm.trans E.out, HOK.out, HACC.out, by omega, by omega, fun q' hq => by simp at hq; subst hq; exact HAFT.out _ rfl, HB.out⟩
            · have q3 : decide ((st : Int) ≤ (t : Int)) = true := by simp; omega
              have q3' : decide (st ≤ t) = true := by simp; omega
              have E := Lib.hid (HNM.out.trans (nm_far _ _ _ _ _ HL.out (by rw [← HCC.out]; exact g) H1.out (by rw [HT.out]; exact g3)))
              cases aft with
              | none =>
                obtain rfl : nx = -1 := HNX.out
                go_wp2_with fail
                refine HC.out.mono ?_
                rintro e w' ⟨rfl, rfl⟩
                go_wp2_with fail
                refine HC2.out.mono ?_
                rintro e w' ⟨rfl, rfl⟩
                go_wp2
                go_ret3
                exact ⟨name_err (k := 10) E.out, HB.out⟩
              | some q =>
                obtain rfl : nx = (q : Int) := HNX.out
                have qn : decide ((q : Int) < 0) = false := by simp
                go_wp2_with fail
                refine HC.out.mono ?_
                rintro e w' ⟨rfl, rfl⟩
                go_wp2_with fail
                refine HC2.out.mono ?_
                rintro e w' ⟨rfl, rfl⟩
                go_wp2
                go_ret3
                exact ⟨name_err (k := 10) E.out, HB.out⟩
          · obtain ⟨e1, e2, e3⟩ := pi_no (s := s.data.toList) (a := (p : Int)) (n := 2) (piE_no (by have := HS.out; omega))
            rw [e1, e2, e3] at C2
            have HC2 := Lib.hid C2
            clear C2 e1 e2 e3
            have E := Lib.hid (HNM.out.trans (nm_short _ _ _ _ _ HL.out (by rw [← HCC.out]; exact g) (by rw [← HS.out]; exact h1)))
            go_wp2_with fail
            refine HC.out.mono ?_
            rintro e w' ⟨rfl, rfl⟩
            go_wp2_with fail
            refine HC2.out.mono ?_
            rintro e w' ⟨rfl, rfl⟩
            rw [show numB [] = 0 from rfl]
            go_wp2
            go_ret3
            exact ⟨name_err (k := 10) E.out, HB.out⟩
        · have q1 : decide ((192 : Int) ≤ (c : Int)) = false := by simp; omega
          by_cases g2 : 63 < c
          · have q2 : (63 : Int) < (c : Int) := by omega
            have E := Lib.hid (HNM.out.trans (nm_odd _ _ _ _ _ HL.out (by rw [← HCC.out]; omega) (by rw [← HCC.out]; exact g2)))
            go_wp2_with fail
            refine HC.out.mono ?_
            rintro e w' ⟨rfl, rfl⟩
            go_wp2
            go_ret3
            exact ⟨name_err (k := 10) E.out, HB.out⟩
          · have q2 : decide ((63 : Int) < (c : Int)) = false := by simp; omega
            have C3 := rraw_any s hs ((p : Int) + 1) (c : Int) (by omega) (by omega) wr
            unfold pcV at C3
            by_cases h1 : p + 1 + c ≤ s.size
            · obtain ⟨e1, e2, e3⟩ := pi_yes (s := s.data.toList) (piE_yes (a := (p : Int) + 1) (n := (c : Int)) (by omega) (by omega) (by have := HS.out; omega))
              rw [e1, e2, e3, show ((p : Int) + 1).toNat = p + 1 by omega, Int.toNat_natCast] at C3
              obtain ⟨x, hx⟩ : ∃ x, x = (s.data.toList.drop (p + 1)).take c := ⟨_, rfl⟩
              have h1' : p + 1 + c ≤ s.data.toList.length := by rw [← HS.out]; exact h1
              have hok : OkL x := by rw [hx]; exact lab_ok h1' g0 (by omega)
              have hlb := lab_bytes HL.out HCC.out.symm h1'
              rw [← hx] at C3 hlb
              have hxl : x.length = c := by rw [hx]; simp; omega
              have hel := enc_snoc_length ls x
              rw [hxl] at hel
              have hen : enc ls ++ (s.data.toList.drop p).take (1 + c) = enc (ls ++ [x]) := by rw [hlb, enc_append]; simp [enc]
              have HEN := Lib.hid hen
              have HEL := Lib.hid hel
              have HC3 := Lib.hid C3
              have HXOK := Lib.hid hok
              have H1 := Lib.hid h1'
              obtain ⟨k, hk⟩ : ∃ k, k = (enc ls).length := ⟨_, rfl⟩
              have HK := Lib.hid hk
              rw [← hk] at hacc ⊢
              have hk2 : (k : Int) ≤ 254 := by omega
              clear C3 e1 e2 e3 hx hok hlb hxl hel hen hk h1' hacc
              by_cases g3 : k + 1 + c + 1 ≤ 255
              · have q3 : decide ((255 : Int) < (k : Int) + 1 + 1 + (c : Int)) = false := by simp; omega
                have E := Lib.hid (HNM.out.trans (nm_lab _ _ _ _ _ HL.out (by rw [← HCC.out]; exact g0) (by rw [← HCC.out]; omega) (by rw [← HCC.out]; exact H1.out) (by rw [← HCC.out, ← HK.out]; exact g3)))
                have hmu2 := mu_lt (c := c) (.inl ⟨rfl, rfl⟩ : Ahead p st p st) HL.out H1.out
                rw [HMU.out] at hmu2
                have HM2 := Lib.hid hmu2
                have hll := length_le_enc ls
                rw [← HK.out] at hll
                have HLL := Lib.hid hll
                clear hmu2 hll
                go_wp2_with fail
                refine HC.out.mono ?_
                rintro e w' ⟨rfl, rfl⟩
                go_wp2_with fail
                refine HC3.out.mono ?_
                rintro e w' ⟨rfl, rfl⟩
                go_wp2_with (at_builtin; refine wpList_append_own _ rfl (.tmp 88) (.tmp 90) 114 rfl w.heap.size 9 i0 (.string ⟨#[]⟩) 1 16 Try.underlying114 hi hz0 hz1 hz2 rfl (by decide) _ _ _ rfl (World.ownsRow.alloc HO.out _) ⟨wr.heap.size, 0, none⟩ 1 1 [str x] rfl rfl (cell_one_new _ _ _) (by simp [Value.oneCell']) (by have := HLL.out; unfold maxLen; omega) (by have := HLL.out; omega) (by simp; omega) ?_)
                intro v' w1 hown' hgrow _
                have R2 := Lib.hid (own9_next HO.out (Nat.le_refl _) HB.out hown' hgrow)
                clear hown' hgrow
                go_wp2
                go_roundg (mu s.data.toList.length st (p + 1 + c))
                case measure => exact HM2.out
                case rel => exact ⟨p + 1 + c, st, aft, ls ++ [x], rfl, by push_cast; rfl, R2.out.1, int_i64 (by rw [HEL.out, ← HK.out]; push_cast; omega), by rw [HNX.out], rfl, HR.out.symm.trans (by rw [E.out, ← HCC.out, HEN.out]), ok_snoc HOK.out HXOK.out, by rw [HEL.out, ← HK.out]; omega, by push_cast; omega, hst, HAFT.out, R2.out.2⟩
              · have q3 : decide ((255 : Int) < (k : Int) + 1 + 1 + (c : Int)) = true := by simp; omega
                have E := Lib.hid (HNM.out.trans (nm_long _ _ _ _ _ HL.out (by rw [← HCC.out]; exact g0) (by rw [← HCC.out]; omega) (by rw [← HCC.out]; exact H1.out) (by rw [← HCC.out, ← HK.out]; exact g3)))
                go_wp2_with fail
                refine HC.out.mono ?_
                rintro e w' ⟨rfl, rfl⟩
                go_wp2_with fail
                refine HC3.out.mono ?_
                rintro e w' ⟨rfl, rfl⟩
                go_wp2
                go_ret3
                exact ⟨name_err (k := 11) E.out, HB.out⟩
            · obtain ⟨e1, e2, e3⟩ := pi_no (s := s.data.toList) (a := (p : Int) + 1) (n := (c : Int)) (piE_no (by have := HS.out; omega))
              rw [e1, e2, e3] at C3
              have HC3 := Lib.hid C3
              clear C3 e1 e2 e3
              have E := Lib.hid (HNM.out.trans (nm_cut _ _ _ _ _ HL.out (by rw [← HCC.out]; exact g0) (by rw [← HCC.out]; omega) (by rw [← HCC.out, ← HS.out]; exact h1)))
              go_wp2_with fail
              refine HC.out.mono ?_
              rintro e w' ⟨rfl, rfl⟩
              go_wp2_with fail
              refine HC3.out.mono ?_
              rintro e w' ⟨rfl, rfl⟩
              go_wp2
              go_ret3
              exact ⟨name_err (k := 10) E.out, HB.out⟩
    · have C := rnumber_any s hs (p : Int) 1 (by omega) (by omega) wr
      obtain ⟨e1, e2, e3⟩ := pi_no (s := s.data.toList) (a := (p : Int)) (n := 1) (piE_no (by have := HS.out; omega))
      unfold nuV at C
      rw [e1, e2, e3] at C
      have HC := Lib.hid C
      clear C e1 e2 e3
      have E := Lib.hid (HNM.out.trans (nm_end _ _ _ _ _ (by rw [← HS.out]; exact hlt)))
      go_wp2_with fail
      refine HC.out.mono ?_
      rintro e w' ⟨rfl, rfl⟩
      rw [show numB [] = 0 from rfl]
      go_wp2
      go_ret3
      exact ⟨name_err (k := 10) E.out, HB.out⟩
/-- THE NAME THAT IS READ, by the document. -/
theorem rname_any (s : ByteArray) (hs : s.size ≤ 140737488351232) (a : Int) (ha : -9223372036854775808 ≤ a ∧ a ≤ 9223372036854775807) (w : World) :
    Calls Try.prog 38 #[.string s, .int .i64 a] w fun e w' => e = .returned (nmV (nmI s.data.toList a)) ∧ Below w.heap.size w w' := by
  by_cases h : a < 0
  · have e : nmI s.data.toList a = ([], 0, 10) := by unfold nmI; rw [if_pos h]
    rw [e]
    exact (rname_neg s hs a ⟨ha.1, h⟩ w).mono fun e w' ⟨h1, h2⟩ => ⟨h1, h2 ▸ Below.refl _ _⟩
  · obtain ⟨p, rfl⟩ := Int.eq_ofNat_of_zero_le (show 0 ≤ a by omega)
    have e : nmI s.data.toList (p : Int) = nm s.data.toList p p none [] := by unfold nmI; rw [if_neg h, Int.toNat_natCast]
    rw [e]
    exact rname_pos s hs p ha.2 w
end Go.Proofs.Ytljfkjbagebncaa
