/-
  QP: A packer beside blocks that hold what they held; how it is asked how much it holds.
-/
import Derived.Test.YtljfkjbagebncaaG22
import Derived.Test.YtljfkjbagebncaaG21
import Derived.BigQuiet
import Derived.Test.YtljfkjbagebncaaG24

/- QP -/
namespace Go.Proofs.Ytljfkjbagebncaa
open Go.RowKit
/-- A packer, and blocks that hold what they held; S: the blocks that were its own at the start. -/
def QP (S : Nat → Prop) (w0 : World) (b : Nat) (K : List (Nat × Obj)) (B : Bs) (L : Kn) (w : World) : Prop :=
  ∃ S', (PK S' b B L w ∧ ∀ k, S' k → k < w.heap.size ∧ (S k ∨ w0.heap.size ≤ k)) ∧ Tr S w0 w ∧ ∀ p ∈ K, ¬ S' p.1 ∧ w.heap[p.1]? = some p.2
section
variable {S : Nat → Prop} {w0 w w' : World} {b g : Nat} {o : Obj} {K K' : List (Nat × Obj)} {B : Bs} {L : Kn}
theorem QP.start (h : PK S b B L w0) (hK : ∀ p ∈ K, ¬ S p.1 ∧ w0.heap[p.1]? = some p.2) : QP S w0 b K B L w0 :=
  ⟨_, ⟨h.lt, fun _ hk => ⟨hk.2, .inl hk.1⟩⟩, Tr.refl _ _, fun p hp => ⟨fun hs => (hK p hp).1 hs.1, (hK p hp).2⟩⟩
theorem QP.step (h : QP S w0 b K B L w) :
    ∃ S', PK S' b B L w ∧ ∀ w' B' L', Lft S' b B' L' w w' → QP S w0 b K B' L' w' := by
  obtain ⟨S', ⟨h1, h2⟩, h3, h4⟩ := h
  refine ⟨S', h1, fun w' B' L' hl => ⟨_, ⟨hl.1.lt, ?_⟩, h3.trans hl.2 fun k hk => (h2 k hk).2, fun p hp => ?_⟩⟩
  · rintro k ⟨hk | hk, hk2⟩
    · exact ⟨hk2, (h2 k hk).2⟩
    · exact ⟨hk2, .inr (Nat.le_trans h3.size hk)⟩
  · obtain ⟨m1, m2⟩ := h4 p hp
    have hlt : p.1 < w.heap.size := (Array.getElem?_eq_some_iff.1 m2).1
    refine ⟨?_, (hl.2.block _ hlt m1).trans m2⟩
    rintro ⟨hk | hk, _⟩
    · exact m1 hk
    · omega
theorem QP.under (h : QP S w0 b K B L w) (hb : Below w.heap.size w w') : QP S w0 b K B L w' := by
  obtain ⟨S', ⟨h1, h2⟩, h3, h4⟩ := h
  refine ⟨S', ⟨h1.below hb, fun k hk => ⟨Nat.lt_of_lt_of_le (h2 k hk).1 hb.size, (h2 k hk).2⟩⟩, h3.then (Tr.of_below hb), fun p hp => ?_⟩
  obtain ⟨m1, m2⟩ := h4 p hp
  exact ⟨m1, (hb.block _ (Array.getElem?_eq_some_iff.1 m2).1).trans m2⟩
theorem QP.more (h : QP S w0 b K B L w) (hb : Below w.heap.size w w') (hg : w.heap.size ≤ g) (ho : w'.heap[g]? = some o) : QP S w0 b ((g, o) :: K) B L w' := by
  obtain ⟨S', ⟨h1, h2⟩, h3, h4⟩ := h
  refine ⟨S', ⟨h1.below hb, fun k hk => ⟨Nat.lt_of_lt_of_le (h2 k hk).1 hb.size, (h2 k hk).2⟩⟩, h3.then (Tr.of_below hb), fun p hp => ?_⟩
  rcases List.mem_cons.1 hp with rfl | hp
  · exact ⟨fun hs => by have := (h2 _ hs).1; simp only at this; omega, ho⟩
  · obtain ⟨m1, m2⟩ := h4 p hp
    exact ⟨m1, (hb.block _ (Array.getElem?_eq_some_iff.1 m2).1).trans m2⟩
theorem QP.box (h : QP S w0 b K B L w) (o : Obj) : QP S w0 b ((w.heap.size, o) :: K) B L (w.alloc o) := h.more (one_box w o) (Nat.le_refl _) (World.alloc_heap_new w o)
theorem QP.ce {T : TypeId} {cs : Array Value} (h : QP S w0 b K B L w) (hm : (g, Obj.cells cs T (0, 0)) ∈ K) : Ce w g T cs := by
  obtain ⟨S', _, _, h4⟩ := h
  exact (h4 _ hm).2
theorem QP.sub (h : QP S w0 b K B L w) (hK : ∀ p ∈ K', p ∈ K) : QP S w0 b K' B L w := by
  obtain ⟨S', h1, h3, h4⟩ := h
  exact ⟨S', h1, h3, fun p hp => h4 p (hK p hp)⟩
theorem QP.left (h : QP S w0 b K B L w) : Lft S b B L w0 w := by
  obtain ⟨S', ⟨h1, h2⟩, h3, h4⟩ := h
  exact ⟨h1.mono fun k hk => (h2 k hk).2, h3⟩
theorem QP.tr (h : QP S w0 b K B L w) : Tr S w0 w := let ⟨_, _, h3, _⟩ := h; h3
theorem QP.below (h : QP S w0 b K B L w) (hS : ∀ k, S k → w0.heap.size ≤ k) : Below w0.heap.size w0 w := h.tr.below (Nat.le_refl _) hS
/-- One call of the packer's. -/
theorem QP.call (h : QP S w0 b K B L w) {fn : Nat} {args : Array Value} {Q : Ending → Prop} {B' : Bs} {L' : Kn}
    (hc : ∀ S', PK S' b B L w → Calls Try.prog fn args w fun e w' => Q e ∧ Lft S' b B' L' w w') : Calls Try.prog fn args w fun e w' => Q e ∧ QP S w0 b K B' L' w' := by
  obtain ⟨S', h1, h2⟩ := h.step
  exact (hc S' h1).mono fun e w' ⟨k1, k2⟩ => ⟨k1, h2 _ _ _ k2⟩
end
/-- Is there room? -/
def rmE (lim : Int) (n : Nat) : Int := if lim < (n : Int) then 11 else 0
set_option maxHeartbeats 1600000 in
theorem room_any (S : Nat → Prop) (b pb lb : Nat) (lim : Int) (B : Bs) (L : Kn) (w : World) (h : PK S b B L w) (hp : Ce w pb 86 #[ptr b]) (hl : Ce w lb 3 #[.int .i64 lim]) :
    Calls Try.prog 57 #[ptr pb, ptr lb] w fun e w' => e = .returned (.int .i64 (rmE lim B.length)) ∧ Below w.heap.size w w' := by
  have x0 := hp.cell 0
  have y0 := hl.cell 0
  simp at x0 y0
  have C := fun n => plen_any S b B L (w.drewN n) (h.below (below_drewN w n))
  obtain ⟨n, hn⟩ : ∃ n, n = B.length := ⟨_, rfl⟩
  rw [← hn] at C ⊢
  have HC := Lib.hid C
  clear h hp hl hn C
  unfold rmE
  by_cases g : lim < (n : Int)
  · rw [if_pos g]
    go_enter Try.func57, Try.ntmps57
    go_wp2_with fail
    go_quiet ((go_at_call 58; exact (HC.out _).mono fun _ _ h => ⟨h.1, _, h.2.symm⟩))
    go_wp2
    go_ret
    exact ⟨rfl, below_drewN _ _⟩
  · have g' : decide (lim < (n : Int)) = false := by simpa using g
    rw [if_neg g]
    go_enter Try.func57, Try.ntmps57
    go_wp2_with fail
    go_quiet ((go_at_call 58; exact (HC.out _).mono fun _ _ h => ⟨h.1, _, h.2.symm⟩))
    go_wp2
    go_ret
    exact ⟨rfl, below_drewN _ _⟩
end Go.Proofs.Ytljfkjbagebncaa
