/-
  The network and that of the document beside one another.
-/
import Derived.Test.YtocmgdhhlofajaaRLose
import Derived.Test.YtocmgdhhlofajaaLawLost
namespace Go.Proofs.Ytocmgdhhlofajaa
open Go.RowKit
/-- Two networks that share no memory, in blocks from n on. -/
structure P2 (n b br : Nat) (w0 : World) (S Q : Nat → Prop) (s t : St) (w : World) : Prop where
  p : NP n S w0 b s w
  r : NR n Q w0 br t w
  d : ∀ k, S k → ¬ Q k
/-- Blocks that are of neither are as they were, and of neither. -/
def KP (S Q S1 Q1 : Nat → Prop) (w w' : World) : Prop := w.heap.size ≤ w'.heap.size ∧ ∀ g, g < w.heap.size → ¬ S g → ¬ Q g → ¬ S1 g ∧ ¬ Q1 g ∧ w'.heap[g]? = w.heap[g]?
section
variable {n b br : Nat} {w0 : World} {S Q : Nat → Prop} {s t s1 : St} {w w' : World}
theorem P2.left (h : P2 n b br w0 S Q s t w) (l : Pl S b s1 w w') : ∃ S1, P2 n b br w0 S1 Q s1 t w' ∧ KP S Q S1 Q w w' := by
  obtain ⟨S1, h1, k1, g1⟩ := h.p.step l
  refine ⟨S1, ⟨h1, h.r.tr l.2 (fun k hq hs => h.d k hs hq) (fun k hk => (h.p.hS k hk).1), fun k hs hq => ?_⟩, l.2.size, fun g hg hs hq => ⟨(k1 g hg hs).1, hq, (k1 g hg hs).2.1⟩⟩
  rcases g1 k hs with h' | h'
  · exact h.d k h' hq
  · have := (h.r.hS k hq).2; omega
theorem P2.right (h : P2 n b br w0 S Q s t w) (l : Rl Q br s1 w w') : ∃ Q1, P2 n b br w0 S Q1 s s1 w' ∧ KP S Q S Q1 w w' := by
  obtain ⟨Q1, h1, k1, g1⟩ := h.r.step l
  refine ⟨Q1, ⟨h.p.tr l.2 (fun k hs hq => h.d k hs hq) (fun k hk => (h.r.hS k hk).1), h1, fun k hs hq => ?_⟩, l.2.size, fun g hg hs hq => ⟨hs, (k1 g hg hq).1, (k1 g hg hq).2.1⟩⟩
  rcases g1 k hq with h' | h'
  · exact h.d k hs h'
  · have := (h.p.hS k hs).2; omega
theorem P2.mv (h : P2 n b br w0 S Q s t w) (hb : Below w.heap.size w w') : P2 n b br w0 S Q s t w' := ⟨h.p.mv hb, h.r.mv hb, h.d⟩
theorem KP.refl : KP S Q S Q w w := ⟨Nat.le_refl _, fun _ _ h1 h2 => ⟨h1, h2, rfl⟩⟩
theorem KP.of_below (hb : Below w.heap.size w w') : KP S Q S Q w w' := ⟨hb.size, fun g hg h1 h2 => ⟨h1, h2, hb.block g hg⟩⟩
theorem KP.trans {S1 Q1 S2 Q2 : Nat → Prop} {w1 w2 : World} (h : KP S Q S1 Q1 w w1) (k : KP S1 Q1 S2 Q2 w1 w2) : KP S Q S2 Q2 w w2 := ⟨Nat.le_trans h.1 k.1, fun g hg h1 h2 =>
  let ⟨a, c, e⟩ := h.2 g hg h1 h2
  let ⟨a2, c2, e2⟩ := k.2 g (Nat.lt_of_lt_of_le hg h.1) a c
  ⟨a2, c2, e2.trans e⟩⟩
/-- A block that is of neither. -/
def BX (B : Nat) (cs : Array Value) (T : TypeId) (S Q : Nat → Prop) (w : World) : Prop := Ce w B T cs ∧ ¬ S B ∧ ¬ Q B
theorem BX.step {S1 Q1 : Nat → Prop} {B : Nat} {cs : Array Value} {T : TypeId} (h : BX B cs T S Q w) (k : KP S Q S1 Q1 w w') : BX B cs T S1 Q1 w' :=
  let ⟨a, c, e⟩ := k.2 B h.1.lt h.2.1 h.2.2
  ⟨e.trans h.1, a, c⟩
theorem BX.five {B : Nat} {v0 v1 v2 v3 v4 : Value} {T : TypeId} (h : BX B #[v0, v1, v2, v3, v4] T S Q w) : w.cell? ⟨B, 1, none⟩ = some v1 ∧ w.cell? ⟨B, 2, none⟩ = some v2 ∧ w.cell? ⟨B, 3, none⟩ = some v3 ∧ w.cell? ⟨B, 4, none⟩ = some v4 := by
  refine ⟨?_, ?_, ?_, ?_⟩ <;> (rw [h.1.cell]; rfl)
end
/-- A call on the network, whatever the other one is. -/
def CL (n b br : Nat) (w0 : World) (f : Nat) (args : Array Value) (r : Value) (s s1 : St) : Prop :=
  ∀ S Q t w, P2 n b br w0 S Q s t w → Calls Try.prog f args w fun e w' => e = .returned r ∧ ∃ S1, P2 n b br w0 S1 Q s1 t w' ∧ KP S Q S1 Q w w'
/-- .. on that of the document. -/
def CR (n b br : Nat) (w0 : World) (f : Nat) (args : Array Value) (r : Value) (t t1 : St) : Prop :=
  ∀ S Q s w, P2 n b br w0 S Q s t w → Calls Try.prog f args w fun e w' => e = .returned r ∧ ∃ Q1, P2 n b br w0 S Q1 s t1 w' ∧ KP S Q S Q1 w w'
theorem cl_of {n b br : Nat} {w0 : World} {f : Nat} {args : Array Value} {r : Value} {s s1 : St} (C : ∀ S w, Pn S b s w → Calls Try.prog f args w fun e w' => e = .returned r ∧ Pl S b s1 w w') : CL n b br w0 f args r s s1 :=
  fun S _ _ w h => (C S w h.p.p).mono fun _ _ ⟨he, hl⟩ => ⟨he, h.left hl⟩
theorem cr_of {n b br : Nat} {w0 : World} {f : Nat} {args : Array Value} {r : Value} {t t1 : St} (C : ∀ S w, Rn S br t w → Calls Try.prog f args w fun e w' => e = .returned r ∧ Rl S br t1 w w') : CR n b br w0 f args r t t1 :=
  fun _ Q _ w h => (C Q w h.r.p).mono fun _ _ ⟨he, hl⟩ => ⟨he, h.right hl⟩
/-- How much there is behind so many calls. -/
structure Bd (k : Nat) (s : St) : Prop where
  g : Good s
  puts : s.puts ≤ 200 * k
  opens : s.opens ≤ k
theorem Bd.its {k : Nat} {s : St} (h : Bd k s) : s.its.length ≤ 200 * k := Nat.le_trans h.g.lenI h.puts
theorem Bd.lks {k : Nat} {s : St} (h : Bd k s) : s.lks.length ≤ k := Nat.le_trans h.g.lenL h.opens
/-- Both networks answer alike. -/
structure Two (n b br : Nat) (w0 : World) (f g : Nat) (rest : List Value) (s s1 : St) (r : Value) : Prop where
  l : CL n b br w0 f (ptr b :: rest).toArray r s s1
  r : CR n b br w0 g (ptr br :: rest).toArray r s s1
section
variable {n b br : Nat} {w0 : World} {k : Nat} {s : St} (h : Bd k s) (hk : k ≤ 100)
include h hk
theorem two_send (f t : Int) (x : ByteArray) : Two n b br w0 20 34 [.int .i64 f, .int .i64 t, .string x] s (sendS s f t x) (.bool (!full s)) := by
  have h1 := h.its; have h2 := h.puts
  exact ⟨cl_of fun S w hp => send_any f t x S b s w hp (by omega) (by omega), cr_of fun S w hp => rsend_any f t x S br s w hp (by omega) (by omega)⟩
theorem two_open (x y : Int) : ∃ (c : Int) (o : Bool), Two n b br w0 19 27 [.int .i64 x, .int .i64 y] s (openS s x y) (.tuple #[.int .i64 c, .bool o]) := by
  have h1 := h.its; have h2 := h.puts; have h3 := h.opens
  cases g : noOpen s x y with
  | true =>
    have e : openS s x y = s := by unfold openS; rw [g]; rfl
    rw [e]
    exact ⟨0, false, cl_of fun S w hp => (open_no x y S b s w hp g).mono fun _ _ ⟨h1, h2⟩ => ⟨h1, h2 ▸ Lft.refl hp⟩, cr_of fun S w hp => (ropen_no x y S br s w hp g).mono fun _ _ ⟨h1, h2⟩ => ⟨h1, h2 ▸ Lft.refl hp⟩⟩
  | false =>
    exact ⟨_, true, cl_of fun S w hp => open_yes x y S b s w hp (by omega) (by omega) (by omega) g, cr_of fun S w hp => ropen_yes x y S br s w hp (by omega) (by omega) (by omega) g⟩
theorem two_write (c f : Int) (x : ByteArray) : Two n b br w0 22 28 [.int .i64 c, .int .i64 f, .string x] s (writeS s c f x) (.bool (writeB s c f)) := by
  have h1 := h.its; have h2 := h.puts; have h3 := h.lks
  exact ⟨cl_of fun S w hp => write_any c f x S b s w hp (by omega) (by omega) (by omega), cr_of fun S w hp => rwrite_any c f x S br s w hp (by omega) (by omega) (by omega)⟩
theorem two_close (c : Int) : Two n b br w0 23 29 [.int .i64 c] s (closeS s c) (.bool (findL s.lks c).isSome) := by
  have h1 := h.its; have h2 := h.puts; have h3 := h.lks
  exact ⟨cl_of fun S w hp => close_any c S b s w hp h.g (by omega) (by omega) (by omega), cr_of fun S w hp => rclose_any c S br s w hp h.g (by omega) (by omega) (by omega)⟩
theorem two_lose (c : Int) : Two n b br w0 21 30 [.int .i64 c] s (loseS s c) (.int .i64 (loseN s c : Int)) := by
  have h1 := h.its; have h2 := h.puts; have h3 := h.lks
  exact ⟨cl_of fun S w hp => lose_any c S b s w hp (by omega) (by omega) (by omega), cr_of fun S w hp => rlose_any c S br s w hp (by omega) (by omega) (by omega)⟩
theorem two_take (p : Int) (hp : I64 p) : Two n b br w0 25 31 [.int .i64 p] s (takeS s (pick (ready s) p)) (.tuple #[ia ((pick (ready s) p).getD zi), .bool (pick (ready s) p).isSome]) := by
  have h1 := h.its; have h2 := h.puts; have h3 := h.opens
  exact ⟨cl_of fun S w hpn => take_any p hp S b s w hpn h.g (by omega) (by omega), cr_of fun S w hpn => rTake_any p hp S br s w hpn (by omega)⟩
theorem two_drop (p : Int) (hp : I64 p) : Two n b br w0 26 32 [.int .i64 p] s (takeS s (pick (dgs s) p)) (.bool (pick (dgs s) p).isSome) := by
  have h1 := h.its
  exact ⟨cl_of fun S w hpn => drop_any p hp S b s w hpn (by omega), cr_of fun S w hpn => rDrop_any p hp S br s w hpn (by omega)⟩
theorem two_double (p : Int) (hp : I64 p) : Two n b br w0 24 33 [.int .i64 p] s (dblS s p) (.bool (dblB s p)) := by
  have h1 := h.its; have h2 := h.puts
  exact ⟨cl_of fun S w hpn => double_any p hp S b s w hpn (by omega) (by omega), cr_of fun S w hpn => rDouble_any p hp S br s w hpn (by omega) (by omega)⟩
end
section
variable {k : Nat} {s : St} (h : Bd k s)
include h
theorem bd_send (f t : Int) (x : ByteArray) (ht : I64 t) : Bd (k + 1) (sendS s f t x) := by
  have h1 := h.puts; have h2 := h.opens
  obtain ⟨_, h4, h5, _⟩ := send_len s f t x
  exact ⟨good_send h.g ht, by omega, by omega⟩
theorem bd_open (x y : Int) (hx : I64 x) (hy : I64 y) : Bd (k + 1) (openS s x y) := by
  have h1 := h.puts; have h2 := h.opens
  obtain ⟨_, h4, h5⟩ := open_len s x y
  exact ⟨good_open h.g hx hy, by omega, by omega⟩
theorem bd_write (c f : Int) (x : ByteArray) : Bd (k + 1) (writeS s c f x) := by
  have h1 := h.puts; have h2 := h.opens
  obtain ⟨_, h4, h5⟩ := write_len s c f x
  exact ⟨good_write h.g, by omega, by omega⟩
theorem bd_close (c : Int) : Bd (k + 1) (closeS s c) := by
  have h1 := h.puts; have h2 := h.opens
  have e : (closeS s c).puts ≤ s.puts + 2 ∧ (closeS s c).opens = s.opens := by
    unfold closeS
    split
    · exact ⟨by omega, rfl⟩
    · exact ⟨Nat.le_refl _, rfl⟩
  exact ⟨good_close h.g, by omega, by omega⟩
theorem bd_lose (c : Int) (hk : k ≤ 100) : Bd (k + 1) (loseS s c) := by
  have h1 := h.puts; have h2 := h.opens; have h3 := h.lks
  obtain ⟨_, h4, h5, _⟩ := lose_len s c
  exact ⟨good_lose h.g, by omega, by omega⟩
theorem bd_take (o : Option It) : Bd (k + 1) (takeS s o) := by
  have h1 := h.puts; have h2 := h.opens
  have e : (takeS s o).puts = s.puts ∧ (takeS s o).opens = s.opens := by cases o <;> exact ⟨rfl, rfl⟩
  exact ⟨good_take h.g, by omega, by omega⟩
theorem bd_double (p : Int) : Bd (k + 1) (dblS s p) := by
  have h1 := h.puts; have h2 := h.opens
  have e : (dblS s p).puts ≤ s.puts + 1 ∧ (dblS s p).opens = s.opens := by
    unfold dblS
    split
    · exact ⟨by omega, rfl⟩
    · split
      · exact ⟨by omega, rfl⟩
      · exact ⟨Nat.le_refl _, rfl⟩
  exact ⟨good_dbl h.g, by omega, by omega⟩
end
end Go.Proofs.Ytocmgdhhlofajaa
