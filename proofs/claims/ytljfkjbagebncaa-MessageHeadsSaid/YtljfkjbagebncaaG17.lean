/-
  Awake: What the statements' own look 'awake' and their 'short' hand back; no older memory is changed.
  Two: Two packers beside one another; what names put twice come to.
  Keep: A packer whose own blocks are told apart from others that the call made: what stays as it was, call by call.
  Pr: A packer and the document's packer beside one another, of the same bytes.
  PutRec: What Put leaves, for every record and packer; no other older memory is changed.
-/
import Derived.Test.YtljfkjbagebncaaG08
import Derived.Test.YtljfkjbagebncaaG07
import Derived.Test.YtljfkjbagebncaaG15
import Derived.Test.YtljfkjbagebncaaG16
import Derived.Test.YtljfkjbagebncaaG13

/- Awake -/
namespace Go.Proofs.Ytljfkjbagebncaa
open Go.RowKit
theorem Lft.one {n b : Nat} {B : Bs} {L : Kn} {w w' : World} (h : Lft (n ≤ ·) b B L w w') (hn : n ≤ w.heap.size) : PK (n ≤ ·) b B L w' ∧ Below n w w' := by
  refine ⟨h.1.mono fun k hk => ?_, h.2.below hn fun k hk => hk⟩
  rcases hk with hk | hk
  · exact hk
  · exact Nat.le_trans hn hk
set_option maxHeartbeats 400000 in
theorem short_cut (s : ByteArray) (n : Nat) (h : n < s.size) (w : World) :
    Calls Try.prog 13 #[.string s, .int .i64 (n : Int)] w fun e w' => e = .returned (.string (s.extract 0 n)) ∧ w = w' := by
  have hd : decide ((n : Int) < (s.size : Int)) = true := by simp; omega
  go_enter Try.func13, Try.ntmps13
  go_wp2
  go_ret
  exact ⟨rfl, rfl⟩
set_option maxHeartbeats 400000 in
theorem short_all (s : ByteArray) (n : Nat) (h : s.size ≤ n) (w : World) :
    Calls Try.prog 13 #[.string s, .int .i64 (n : Int)] w fun e w' => e = .returned (.string s) ∧ w = w' := by
  go_enter Try.func13, Try.ntmps13
  go_wp2
  go_ret
  exact ⟨rfl, rfl⟩
/-- THE CUT: what stands there behind it is of no more than so many bytes. -/
theorem short_any (s : ByteArray) (n : Nat) :
    ∃ t : ByteArray, t.size ≤ n ∧ ∀ w : World, Calls Try.prog 13 #[.string s, .int .i64 (n : Int)] w fun e w' => e = .returned (.string t) ∧ w = w' := by
  by_cases h : s.size ≤ n
  · exact ⟨s, h, fun w => short_all s n h w⟩
  · exact ⟨s.extract 0 n, by simp; omega, fun w => short_cut s n (by omega) w⟩
end Go.Proofs.Ytljfkjbagebncaa

/- Two -/
namespace Go.Proofs.Ytljfkjbagebncaa
open Go.RowKit
theorem PK.lt {S : Nat → Prop} {b : Nat} {B : Bs} {L : Kn} {w : World} (h : PK S b B L w) : PK (fun k => S k ∧ k < w.heap.size) b B L w := by
  obtain ⟨sv, mv, h⟩ := h
  refine ⟨sv, mv, h.blk, h.row, fun k hk => ⟨h.rowS k hk, row_lt h.row k hk⟩, ⟨h.own, h.blk.lt⟩, ?_⟩
  rcases h.map with hm | ⟨mb, e, hs, hm⟩
  · exact .inl hm
  · exact .inr ⟨mb, e, ⟨hs, hm.lt⟩, hm⟩
/-- Two packers that share no memory, in blocks from n on. -/
structure Pair (n bp bq : Nat) (S Q : Nat → Prop) (Bp : Bs) (Lp : Kn) (Bq : Bs) (Lq : Kn) (w : World) : Prop where
  p : PK S bp Bp Lp w
  q : PK Q bq Bq Lq w
  hp : ∀ k, S k → n ≤ k ∧ k < w.heap.size
  hq : ∀ k, Q k → n ≤ k ∧ k < w.heap.size
  d : ∀ k, S k → ¬ Q k
def Two (n bp bq : Nat) (Bp : Bs) (Lp : Kn) (Bq : Bs) (Lq : Kn) (w : World) : Prop := ∃ S Q, Pair n bp bq S Q Bp Lp Bq Lq w
theorem Pair.swap {n bp bq : Nat} {S Q : Nat → Prop} {Bp Bq : Bs} {Lp Lq : Kn} {w : World} (h : Pair n bp bq S Q Bp Lp Bq Lq w) : Pair n bq bp Q S Bq Lq Bp Lp w :=
  ⟨h.q, h.p, h.hq, h.hp, fun k hq hs => h.d k hs hq⟩
theorem Two.swap {n bp bq : Nat} {Bp Bq : Bs} {Lp Lq : Kn} {w : World} (h : Two n bp bq Bp Lp Bq Lq w) : Two n bq bp Bq Lq Bp Lp w := let ⟨S, Q, h⟩ := h; ⟨Q, S, h.swap⟩
theorem Pair.left {n bp bq : Nat} {S Q : Nat → Prop} {Bp Bq B' : Bs} {Lp Lq L' : Kn} {w w' : World} (h : Pair n bp bq S Q Bp Lp Bq Lq w) (hn : n ≤ w.heap.size) (hl : Lft S bp B' L' w w') :
    Two n bp bq B' L' Bq Lq w' ∧ Below n w w' := by
  refine ⟨⟨_, Q, hl.1.lt, h.q.tr hl.2 (fun k _ hq hs => h.d k hs hq), ?_, ?_, ?_⟩, hl.2.below hn (fun k hk => (h.hp k hk).1)⟩
  · rintro k ⟨hk | hk, hk2⟩
    · exact ⟨(h.hp k hk).1, hk2⟩
    · exact ⟨Nat.le_trans hn hk, hk2⟩
  · exact fun k hk => ⟨(h.hq k hk).1, Nat.lt_of_lt_of_le (h.hq k hk).2 hl.2.size⟩
  · rintro k ⟨hk | hk, hk2⟩ hq
    · exact h.d k hk hq
    · have := (h.hq k hq).2; omega
theorem Pair.right {n bp bq : Nat} {S Q : Nat → Prop} {Bp Bq B' : Bs} {Lp Lq L' : Kn} {w w' : World} (h : Pair n bp bq S Q Bp Lp Bq Lq w) (hn : n ≤ w.heap.size) (hl : Lft Q bq B' L' w w') :
    Two n bp bq Bp Lp B' L' w' ∧ Below n w w' := by
  obtain ⟨h1, h2⟩ := h.swap.left hn hl
  exact ⟨h1.swap, h2⟩
theorem two_new {n bp bq : Nat} {w w1 w2 : World} (h1 : PK (w.heap.size ≤ ·) bp [] [] w1) (hb1 : Below w.heap.size w w1) (h2 : PK (w1.heap.size ≤ ·) bq [] [] w2) (hb2 : Below w1.heap.size w1 w2) (hn : n ≤ w.heap.size) : Two n bp bq [] [] [] [] w2 := by
  have h1' := h1.lt.below hb2
  refine ⟨_, _, h1', h2.lt, ?_, ?_, ?_⟩
  · rintro k ⟨hk, hk2⟩; exact ⟨Nat.le_trans hn hk, Nat.lt_of_lt_of_le hk2 hb2.size⟩
  · rintro k ⟨hk, hk2⟩; exact ⟨Nat.le_trans hn (Nat.le_trans hb1.size hk), hk2⟩
  · rintro k ⟨hk, hk2⟩ ⟨hk3, _⟩; omega
/-- What is so of a name that is put, and put once more. -/
theorem pk_ok {pts : Bool} {B : Bs} {L : Kn} {n : Bs} (h : OkK L) : OkK (pkL pts B L n) := by
  unfold pkL; split
  · exact putN_ok _ _ _ h
  · exact h
theorem pk_len {pts : Bool} {B : Bs} {L : Kn} {n : Bs} (g : chk n = 0) : B.length + 1 ≤ (pkB pts B L n).length ∧ (pkB pts B L n).length ≤ B.length + n.length ∧ (pkL pts B L n).length + B.length ≤ L.length + (pkB pts B L n).length := by
  unfold pkB pkL
  rw [if_pos g, if_pos g]
  have h := putN_len (pts := pts) (labs n) B L (fun x hx => (labs_ok n x hx).1)
  have e := congrArg List.length (name_split g)
  rw [List.length_append] at e
  simp only [List.length_singleton] at e
  omega
theorem pk_false {B : Bs} {L : Kn} {n : Bs} (g : chk n = 0) : (pkB false B L n).length = B.length + n.length := by
  unfold pkB
  rw [if_pos g, putN_false_len]
  have e := congrArg List.length (name_split g)
  rw [List.length_append] at e
  simp only [List.length_singleton] at e
  omega
theorem pk_again {B : Bs} {L : Kn} {n : Bs} (g : chk n = 0) (hB : B.length < 16384) : (pkB true (pkB true B L n) (pkL true B L n) n).length = (pkB true B L n).length + (if 1 < n.length then 2 else 1) ∧ pkL true (pkB true B L n) (pkL true B L n) n = pkL true B L n := by
  have e := name_split g
  generalize hp : pkB true B L n = B1
  generalize hq : pkL true B L n = L1
  unfold pkB at hp
  unfold pkL at hq
  unfold pkB pkL
  rw [if_pos g] at hp hq
  rw [if_pos g, if_pos g]
  cases hl : labs n with
  | nil =>
    rw [hl] at e
    rw [putN_nil, ← e]
    simp [enc]
  | cons x xs =>
    rw [hl] at e hp hq
    obtain ⟨a, ha⟩ := putN_known (pts := true) x xs B L hB
    rw [hq] at ha
    rw [putN_point _ _ _ _ _ ha]
    have h1 : 1 < n.length := by rw [← e, enc_cons]; simp [enc1]; omega
    rw [if_pos h1]
    simp [word]
theorem name_one {n : Bs} (g : chk n = 0) : 1 ≤ n.length ∧ n.length ≤ 255 ∧ (n.length = 1 ∨ 3 ≤ n.length) := by
  have e := name_split g
  have h2 := (chk_zero.1 g).2
  have := congrArg List.length e
  rw [List.length_append] at this
  simp only [List.length_singleton] at this
  cases hl : labs n with
  | nil => rw [hl] at this; simp [enc] at this; omega
  | cons x xs =>
    have hx := labs_ok n x (by rw [hl]; simp)
    rw [hl, enc_cons, List.length_append, enc1_length] at this
    have := hx.1
    omega
end Go.Proofs.Ytljfkjbagebncaa

/- Keep -/
namespace Go.Proofs.Ytljfkjbagebncaa
open Go.RowKit
/-- A packer; S: the blocks that were its own at the start, in the world w0; keep: blocks that aren't its own. -/
def PS (S keep : Nat → Prop) (w0 : World) (b : Nat) (B : Bs) (L : Kn) (w : World) : Prop :=
  ∃ S', PK S' b B L w ∧ (∀ k, S' k → k < w.heap.size ∧ (S k ∨ w0.heap.size ≤ k) ∧ ¬ keep k) ∧ Tr S w0 w
theorem PS.start {S : Nat → Prop} {w0 : World} {b : Nat} {B : Bs} {L : Kn} (h : PK S b B L w0) : PS S (fun _ => False) w0 b B L w0 :=
  ⟨_, h.lt, fun _ hk => ⟨hk.2, .inl hk.1, fun h => h⟩, Tr.refl _ _⟩
/-- New blocks are nobody's. -/
theorem PS.under {S keep : Nat → Prop} {w0 w w' : World} {b : Nat} {B : Bs} {L : Kn} (h : PS S keep w0 b B L w) (hb : Below w.heap.size w w') : PS S (fun k => keep k ∨ w.heap.size ≤ k ∧ k < w'.heap.size) w0 b B L w' := by
  obtain ⟨S', h1, h2, h3⟩ := h
  refine ⟨S', h1.below hb, fun k hk => ?_, h3.then (Tr.of_below hb)⟩
  obtain ⟨k1, k2, k3⟩ := h2 k hk
  exact ⟨Nat.lt_of_lt_of_le k1 hb.size, k2, fun h => by rcases h with h | h; exact k3 h; omega⟩
theorem PS.less {S keep keep' : Nat → Prop} {w0 w : World} {b : Nat} {B : Bs} {L : Kn} (h : PS S keep w0 b B L w) (hk : ∀ k, keep' k → keep k) : PS S keep' w0 b B L w := by
  obtain ⟨S', h1, h2, h3⟩ := h
  exact ⟨S', h1, fun k hs => ⟨(h2 k hs).1, (h2 k hs).2.1, fun h => (h2 k hs).2.2 (hk k h)⟩, h3⟩
/-- A call of one of the packer's methods. -/
theorem PS.step {S keep : Nat → Prop} {w0 w : World} {b : Nat} {B : Bs} {L : Kn} (h : PS S keep w0 b B L w) :
    ∃ S', PK S' b B L w ∧ ∀ w' B' L', Lft S' b B' L' w w' → PS S (fun k => keep k ∧ k < w.heap.size) w0 b B' L' w' ∧ (∀ g, keep g → g < w.heap.size → w'.heap[g]? = w.heap[g]?) ∧ w.heap.size ≤ w'.heap.size := by
  obtain ⟨S', h1, h2, h3⟩ := h
  refine ⟨S', h1, fun w' B' L' hl => ⟨⟨_, hl.1.lt, ?_, h3.trans hl.2 fun k hk => ?_⟩, fun g hg hlt => hl.2.block g hlt (fun hs => (h2 g hs).2.2 hg), hl.2.size⟩⟩
  · rintro k ⟨hk | hk, hk2⟩
    · exact ⟨hk2, (h2 k hk).2.1, fun h => (h2 k hk).2.2 h.1⟩
    · exact ⟨hk2, .inr (Nat.le_trans h3.size hk), fun h => by omega⟩
  · exact (h2 k hk).2.1
theorem PS.left {S keep : Nat → Prop} {w0 w : World} {b : Nat} {B : Bs} {L : Kn} (h : PS S keep w0 b B L w) : Lft S b B L w0 w := by
  obtain ⟨S', h1, h2, h3⟩ := h
  exact ⟨h1.mono fun k hk => (h2 k hk).2.1, h3⟩
end Go.Proofs.Ytljfkjbagebncaa

/- Pr -/
namespace Go.Proofs.Ytljfkjbagebncaa
open Go.RowKit
/-- Two packers that share no memory, in blocks from n on. -/
structure PR (n bp br : Nat) (S Q : Nat → Prop) (B : Bs) (L : Kn) (B' : Bs) (L' : Kn) (w : World) : Prop where
  p : PK S bp B L w
  r : RK Q br B' L' w
  hp : ∀ k, S k → n ≤ k ∧ k < w.heap.size
  hq : ∀ k, Q k → n ≤ k ∧ k < w.heap.size
  d : ∀ k, S k → ¬ Q k
theorem PR.below {n bp br : Nat} {S Q : Nat → Prop} {B B' : Bs} {L L' : Kn} {w w' : World} (h : PR n bp br S Q B L B' L' w) (hb : Below w.heap.size w w') : PR n bp br S Q B L B' L' w' :=
  ⟨h.p.below hb, h.r.below hb, fun k hk => ⟨(h.hp k hk).1, Nat.lt_of_lt_of_le (h.hp k hk).2 hb.size⟩, fun k hk => ⟨(h.hq k hk).1, Nat.lt_of_lt_of_le (h.hq k hk).2 hb.size⟩, h.d⟩
theorem PR.left {n bp br : Nat} {S Q : Nat → Prop} {B B' B1 : Bs} {L L' L1 : Kn} {w w' : World} (h : PR n bp br S Q B L B' L' w) (hn : n ≤ w.heap.size) (hl : Lft S bp B1 L1 w w') :
    (∃ S1, PR n bp br S1 Q B1 L1 B' L' w' ∧ ∀ g, g < w.heap.size → ¬ S g → ¬ S1 g) ∧ Below n w w' ∧ ∀ g i, g < w.heap.size → ¬ S g → w'.cell? ⟨g, i, none⟩ = w.cell? ⟨g, i, none⟩ := by
  refine ⟨⟨_, ⟨hl.1.lt, h.r.tr hl.2 (fun k _ hq hs => h.d k hs hq), ?_, ?_, ?_⟩, ?_⟩, hl.2.below hn (fun k hk => (h.hp k hk).1), fun g i hg hS => hl.2.cell (p := ⟨g, i, none⟩) hg hS⟩
  · rintro k ⟨hk | hk, hk2⟩
    · exact ⟨(h.hp k hk).1, hk2⟩
    · exact ⟨Nat.le_trans hn hk, hk2⟩
  · exact fun k hk => ⟨(h.hq k hk).1, Nat.lt_of_lt_of_le (h.hq k hk).2 hl.2.size⟩
  · rintro k ⟨hk | hk, hk2⟩ hq
    · exact h.d k hk hq
    · have := (h.hq k hq).2; omega
  · rintro g hg hS ⟨hk | hk, _⟩
    · exact hS hk
    · omega
theorem PR.right {n bp br : Nat} {S Q : Nat → Prop} {B B' B1 : Bs} {L L' L1 : Kn} {w w' : World} (h : PR n bp br S Q B L B' L' w) (hn : n ≤ w.heap.size) (hl : RLft Q br B1 L1 w w') :
    (∃ Q1, PR n bp br S Q1 B L B1 L1 w' ∧ ∀ g, g < w.heap.size → ¬ Q g → ¬ Q1 g) ∧ Below n w w' ∧ ∀ g i, g < w.heap.size → ¬ Q g → w'.cell? ⟨g, i, none⟩ = w.cell? ⟨g, i, none⟩ := by
  refine ⟨⟨_, ⟨h.p.tr hl.2 (fun k _ hs hq => h.d k hs hq), hl.1.lt, ?_, ?_, ?_⟩, ?_⟩, hl.2.below hn (fun k hk => (h.hq k hk).1), fun g i hg hQ => hl.2.cell (p := ⟨g, i, none⟩) hg hQ⟩
  · exact fun k hk => ⟨(h.hp k hk).1, Nat.lt_of_lt_of_le (h.hp k hk).2 hl.2.size⟩
  · rintro k ⟨hk | hk, hk2⟩
    · exact ⟨(h.hq k hk).1, hk2⟩
    · exact ⟨Nat.le_trans hn hk, hk2⟩
  · rintro k hs ⟨hq | hq, hk2⟩
    · exact h.d k hs hq
    · have := (h.hp k hs).2; omega
  · rintro g hg hQ ⟨hk | hk, _⟩
    · exact hQ hk
    · omega
/-- An empty packer of the document's. -/
theorem rk_new (w : World) : RK (w.heap.size ≤ ·) w.heap.size [] [] (w.alloc (.cells #[.string ⟨#[]⟩, .slice none 0 0] 98)) :=
  ⟨_, heap_alloc_new w _, World.ownsRow_nil _ _ _ _, fun k hk => by simp [Value.ownBlock] at hk, Nat.le_refl _⟩
theorem pr_new {n bp br : Nat} {w w1 w2 : World} (h1 : PK (w.heap.size ≤ ·) bp [] [] w1) (hb1 : Below w.heap.size w w1) (h2 : RK (w1.heap.size ≤ ·) br [] [] w2) (hb2 : Below w1.heap.size w1 w2) (hn : n ≤ w.heap.size) : ∃ S Q, PR n bp br S Q [] [] [] [] w2 := by
  have h1' := h1.lt.below hb2
  refine ⟨_, _, h1', h2.lt, ?_, ?_, ?_⟩
  · rintro k ⟨hk, hk2⟩; exact ⟨Nat.le_trans hn hk, Nat.lt_of_lt_of_le hk2 hb2.size⟩
  · rintro k ⟨hk, hk2⟩; exact ⟨Nat.le_trans hn (Nat.le_trans hb1.size hk), hk2⟩
  · rintro k ⟨hk, hk2⟩ ⟨hk3, _⟩; omega
/-- What the loop knows. -/
def PlI (w : World) (bp br k : Nat) (wr : World) : Prop := ∃ (S Q : Nat → Prop) (B : Bs) (L : Kn), PR w.heap.size bp br S Q B L B L wr ∧ OkK L ∧ L.length ≤ B.length ∧ B.length ≤ 16380 + 300 * k ∧ Below w.heap.size w wr
/-- Zero bytes. -/
theorem made_zero (m : Nat) : (madeCells #[Value.int .u8 0] m).toList = ub (List.replicate m 0) := by
  rw [toList_madeCells_one]
  simp [ub]
end Go.Proofs.Ytljfkjbagebncaa

/- PutRec -/
namespace Go.Proofs.Ytljfkjbagebncaa
open Go.RowKit
def putD : Bs → Kn → List Part → Bs × Kn
  | B, L, [] => (B, L)
  | B, L, (true, n) :: ps => putD (pkB true B L n) (pkL true B L n) ps
  | B, L, (false, x) :: ps => putD (B ++ x) L ps
/-- The bytes ahead of the data's length. -/
def rpH (B : Bs) (L : Kn) (r : Rc) : Bs := pkB true B L r.n.data.toList ++ word r.t ++ word r.c ++ long r.l
def rpK (B : Bs) (L : Kn) (r : Rc) : Kn := pkL true B L r.n.data.toList
def rpD (B : Bs) (L : Kn) (r : Rc) : Bs × Kn := putD (rpH B L r ++ word 0) (rpK B L r) (pts r.t r.d.data.toList)
/-- What Put leaves of the bytes, and of what is known. -/
def rpB (B : Bs) (L : Kn) (r : Rc) : Bs := if rck r = 0 then ptB (rpD B L r).1 ((rpH B L r).length : Int) (((rpD B L r).1.length - ((rpH B L r).length + 2)) % 65536) else B
def rpL (B : Bs) (L : Kn) (r : Rc) : Kn := if rck r = 0 then (rpD B L r).2 else L
theorem pk_le {pts : Bool} {B : Bs} {L : Kn} {n : Bs} (hL : L.length ≤ B.length) : B.length ≤ (pkB pts B L n).length ∧ (pkB pts B L n).length ≤ B.length + n.length ∧ (pkL pts B L n).length ≤ (pkB pts B L n).length := by
  by_cases g : chk n = 0
  · have := pk_len (pts := pts) (B := B) (L := L) g; omega
  · unfold pkB pkL; rw [if_neg g, if_neg g]; omega
/-- What is so of bytes and of what is known, as parts are put. -/
structure Fit (B : Bs) (L : Kn) : Prop where
  l : L.length ≤ B.length
  k : OkK L
theorem Fit.app {B : Bs} {L : Kn} (h : Fit B L) (X : Bs) : Fit (B ++ X) L := ⟨by have := h.l; rw [List.length_append]; omega, h.k⟩
theorem Fit.name {B : Bs} {L : Kn} (h : Fit B L) (pts : Bool) (n : Bs) : Fit (pkB pts B L n) (pkL pts B L n) := ⟨(pk_le h.l).2.2, pk_ok h.k⟩
theorem putD_fit : ∀ (ps : List Part) (B : Bs) (L : Kn), Fit B L → Fit (putD B L ps).1 (putD B L ps).2 ∧ B.length ≤ (putD B L ps).1.length ∧ (putD B L ps).1.length ≤ B.length + (joinP ps).length := by
  intro ps
  induction ps with
  | nil => intro B L h; exact ⟨h, Nat.le_refl _, by simp [putD, joinP]⟩
  | cons p ps ih =>
    intro B L h
    obtain ⟨b, x⟩ := p
    have e : (joinP ((b, x) :: ps)).length = x.length + (joinP ps).length := by simp [joinP]
    rw [e]
    cases b with
    | true =>
      have h1 := ih _ _ (h.name true x)
      have h2 := pk_le (pts := true) (n := x) h.l
      simp only [putD]
      exact ⟨h1.1, by omega, by omega⟩
    | false =>
      have h1 := ih _ _ (h.app x)
      rw [List.length_append] at h1
      simp only [putD]
      exact ⟨h1.1, by omega, by omega⟩
theorem rck_zero {r : Rc} (h : rck r = 0) : chk r.n.data.toList = 0 ∧ r.d.size ≤ 2000 ∧ vld r.t r.d.data.toList = true := by
  unfold rck at h
  split at h
  · rename_i h1
    split at h
    · cases h
    · split at h
      · rename_i h2 h3; exact ⟨h1, by omega, h3⟩
      · cases h
  · rename_i h1; exact absurd h h1
theorem rpH_len {B : Bs} {L : Kn} {r : Rc} (h : Fit B L) (g : rck r = 0) : B.length ≤ (rpH B L r).length ∧ (rpH B L r).length ≤ B.length + 255 + 8 ∧ Fit (rpH B L r) (rpK B L r) := by
  have h1 := pk_le (pts := true) (n := r.n.data.toList) h.l
  have h2 := (chk_zero.1 (rck_zero g).1).2
  have h3 := ((h.name true r.n.data.toList).app (word r.t)).app (word r.c)
  have e : (rpH B L r).length = (pkB true B L r.n.data.toList).length + 8 := by
    unfold rpH; simp [word, long]
  exact ⟨by omega, by omega, h3.app (long r.l)⟩
theorem rp_fit {B : Bs} {L : Kn} {r : Rc} (h : Fit B L) : Fit (rpB B L r) (rpL B L r) ∧ B.length ≤ (rpB B L r).length ∧ (rpB B L r).length ≤ B.length + 2300 := by
  unfold rpB rpL
  by_cases g : rck r = 0
  · rw [if_pos g, if_pos g]
    have h1 := rpH_len h g
    have h2 := putD_fit (pts r.t r.d.data.toList) _ _ (h1.2.2.app (word 0))
    have h3 := pts_join (rck_zero g).2.2
    have h4 := (rck_zero g).2.1
    rw [h3, List.length_append] at h2
    have h5 : (word 0).length = 2 := rfl
    rw [size_list] at h4
    refine ⟨⟨by rw [ptB_len]; exact h2.1.l, h2.1.k⟩, ?_, ?_⟩
    · rw [ptB_len]; unfold rpD; omega
    · rw [ptB_len]; unfold rpD; omega
  · rw [if_neg g, if_neg g]; exact ⟨h, by omega, by omega⟩
end Go.Proofs.Ytljfkjbagebncaa
