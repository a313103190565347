/-
  Two packers beside one another; what names put twice come to.
-/
import Derived.Test.YtflpceaaelampaaAwake
namespace Go.Proofs.Ytflpceaaelampaa
open Go.RowKit
theorem PK.lt {S : Nat → Prop} {b : Nat} {B : Bs} {L : Kn} {w : World} (h : PK S b B L w) : PK (fun k => S k ∧ k < w.heap.size) b B L w := by
  obtain ⟨sv, mv, h⟩ := h
  refine ⟨sv, mv, h.blk, h.row, fun k hk => ⟨h.rowS k hk, row_lt h.row k hk⟩, ⟨h.own, h.blk.lt⟩, ?_⟩
  rcases h.map with hm | ⟨mb, e, hs, hm⟩
  · exact .inl hm
  · exact .inr ⟨mb, e, ⟨hs, hm.lt⟩, hm⟩
/-- Two packers that share no memory, in blocks from n on. -/
structure Pair (n bp bq : Nat) (S Q : Nat → Prop) (Bp : Bs) (Lp : Kn) (Bq : Bs) (Lq : Kn) (w : World) : Prop where
  p : PK S bp Bp Lp w
  q : PK Q bq Bq Lq w
  hp : ∀ k, S k → n ≤ k ∧ k < w.heap.size
  hq : ∀ k, Q k → n ≤ k ∧ k < w.heap.size
  d : ∀ k, S k → ¬ Q k
def Two (n bp bq : Nat) (Bp : Bs) (Lp : Kn) (Bq : Bs) (Lq : Kn) (w : World) : Prop := ∃ S Q, Pair n bp bq S Q Bp Lp Bq Lq w
theorem Pair.swap {n bp bq : Nat} {S Q : Nat → Prop} {Bp Bq : Bs} {Lp Lq : Kn} {w : World} (h : Pair n bp bq S Q Bp Lp Bq Lq w) : Pair n bq bp Q S Bq Lq Bp Lp w :=
  ⟨h.q, h.p, h.hq, h.hp, fun k hq hs => h.d k hs hq⟩
theorem Two.swap {n bp bq : Nat} {Bp Bq : Bs} {Lp Lq : Kn} {w : World} (h : Two n bp bq Bp Lp Bq Lq w) : Two n bq bp Bq Lq Bp Lp w := let ⟨S, Q, h⟩ := h; ⟨Q, S, h.swap⟩
theorem Pair.left {n bp bq : Nat} {S Q : Nat → Prop} {Bp Bq B' : Bs} {Lp Lq L' : Kn} {w w' : World} (h : Pair n bp bq S Q Bp Lp Bq Lq w) (hn : n ≤ w.heap.size) (hl : Lft S bp B' L' w w') :
    Two n bp bq B' L' Bq Lq w' ∧ Below n w w' := by
  refine ⟨⟨_, Q, hl.1.lt, h.q.tr hl.2 (fun k _ hq hs => h.d k hs hq), ?_, ?_, ?_⟩, hl.2.below hn (fun k hk => (h.hp k hk).1)⟩
  · rintro k ⟨hk | hk, hk2⟩
    · exact ⟨(h.hp k hk).1, hk2⟩
    · exact ⟨Nat.le_trans hn hk, hk2⟩
  · exact fun k hk => ⟨(h.hq k hk).1, Nat.lt_of_lt_of_le (h.hq k hk).2 hl.2.size⟩
  · rintro k ⟨hk | hk, hk2⟩ hq
    · exact h.d k hk hq
    · have := (h.hq k hq).2; omega
theorem Pair.right {n bp bq : Nat} {S Q : Nat → Prop} {Bp Bq B' : Bs} {Lp Lq L' : Kn} {w w' : World} (h : Pair n bp bq S Q Bp Lp Bq Lq w) (hn : n ≤ w.heap.size) (hl : Lft Q bq B' L' w w') :
    Two n bp bq Bp Lp B' L' w' ∧ Below n w w' := by
  obtain ⟨h1, h2⟩ := h.swap.left hn hl
  exact ⟨h1.swap, h2⟩
theorem two_new {n bp bq : Nat} {w w1 w2 : World} (h1 : PK (w.heap.size ≤ ·) bp [] [] w1) (hb1 : Below w.heap.size w w1) (h2 : PK (w1.heap.size ≤ ·) bq [] [] w2) (hb2 : Below w1.heap.size w1 w2) (hn : n ≤ w.heap.size) : Two n bp bq [] [] [] [] w2 := by
  have h1' := h1.lt.below hb2
  refine ⟨_, _, h1', h2.lt, ?_, ?_, ?_⟩
  · rintro k ⟨hk, hk2⟩; exact ⟨Nat.le_trans hn hk, Nat.lt_of_lt_of_le hk2 hb2.size⟩
  · rintro k ⟨hk, hk2⟩; exact ⟨Nat.le_trans hn (Nat.le_trans hb1.size hk), hk2⟩
  · rintro k ⟨hk, hk2⟩ ⟨hk3, _⟩; omega
/-- What is so of a name that is put, and put once more. -/
theorem pk_ok {pts : Bool} {B : Bs} {L : Kn} {n : Bs} (h : OkK L) : OkK (pkL pts B L n) := by
  unfold pkL; split
  · exact putN_ok _ _ _ h
  · exact h
theorem pk_len {pts : Bool} {B : Bs} {L : Kn} {n : Bs} (g : chk n = 0) : B.length + 1 ≤ (pkB pts B L n).length ∧ (pkB pts B L n).length ≤ B.length + n.length ∧ (pkL pts B L n).length + B.length ≤ L.length + (pkB pts B L n).length := by
  unfold pkB pkL
  rw [if_pos g, if_pos g]
  have h := putN_len (pts := pts) (labs n) B L (fun x hx => (labs_ok n x hx).1)
  have e := congrArg List.length (name_split g)
  rw [List.length_append] at e
  simp only [List.length_singleton] at e
  omega
theorem pk_false {B : Bs} {L : Kn} {n : Bs} (g : chk n = 0) : (pkB false B L n).length = B.length + n.length := by
  unfold pkB
  rw [if_pos g, putN_false_len]
  have e := congrArg List.length (name_split g)
  rw [List.length_append] at e
  simp only [List.length_singleton] at e
  omega
theorem pk_again {B : Bs} {L : Kn} {n : Bs} (g : chk n = 0) (hB : B.length < 16384) : (pkB true (pkB true B L n) (pkL true B L n) n).length = (pkB true B L n).length + (if 1 < n.length then 2 else 1) ∧ pkL true (pkB true B L n) (pkL true B L n) n = pkL true B L n := by
  have e := name_split g
  generalize hp : pkB true B L n = B1
  generalize hq : pkL true B L n = L1
  unfold pkB at hp
  unfold pkL at hq
  unfold pkB pkL
  rw [if_pos g] at hp hq
  rw [if_pos g, if_pos g]
  cases hl : labs n with
  | nil =>
    rw [hl] at e
    rw [putN_nil, ← e]
    simp [enc]
  | cons x xs =>
    rw [hl] at e hp hq
    obtain ⟨a, ha⟩ := putN_known (pts := true) x xs B L hB
    rw [hq] at ha
    rw [putN_point _ _ _ _ _ ha]
    have h1 : 1 < n.length := by rw [← e, enc_cons]; simp [enc1]; omega
    rw [if_pos h1]
    simp [word]
theorem name_one {n : Bs} (g : chk n = 0) : 1 ≤ n.length ∧ n.length ≤ 255 ∧ (n.length = 1 ∨ 3 ≤ n.length) := by
  have e := name_split g
  have h2 := (chk_zero.1 g).2
  have := congrArg List.length e
  rw [List.length_append] at this
  simp only [List.length_singleton] at this
  cases hl : labs n with
  | nil => rw [hl] at this; simp [enc] at this; omega
  | cons x xs =>
    have hx := labs_ok n x (by rw [hl]; simp)
    rw [hl, enc_cons, List.length_append, enc1_length] at this
    have := hx.1
    omega
end Go.Proofs.Ytflpceaaelampaa
