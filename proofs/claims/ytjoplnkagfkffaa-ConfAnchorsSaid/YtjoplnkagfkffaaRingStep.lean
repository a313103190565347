/-
  A node joins or leaves.
-/
import Derived.Test.YtjoplnkagfkffaaRingMath
namespace Go.Proofs.Ytjoplnkagfkffaa
open Go.RowKit
def ringC (C : Cf) (R : List Int) : Cf := ⟨R, C.hints, C.anchors, C.epoch, C.flushes⟩
abbrev ordV (k nd : Int) (nm tx zn : ByteArray) (hv : Value) : Value := .agg #[it k, it nd, .string nm, .string tx, .string zn, hv]
/-- What change leaves, as far as its caller sees. -/
abbrev Post (B base : Nat) (er : Int) (C' : Cf) (W : World) : Ending → World → Prop := fun e W' => e = .returned (it er) ∧ Below base W W' ∧ (er = 0 → ∃ r' h' a' fs', Ce W' B 29 #[r', h', a', it C'.epoch, fs'] ∧ OwnC W' base r' h' a' fs' C')
set_option maxRecDepth 100000 in
set_option maxHeartbeats 3200000 in
theorem change1 {W : World} {B base : Nat} {r h a fs : Value} {C C' : Cf} {er nd : Int} {nm tx zn : ByteArray} (hC : Ce W B 29 #[r, h, a, it C.epoch, fs]) (hO : OwnC W base r h a fs C) (_hB : base ≤ B) (hbs : base ≤ W.heap.size)
    (hf : ∀ W1, Ce W1 B 29 #[r, h, a, it C.epoch, fs] → OwnC W1 base r h a fs C → base ≤ W1.heap.size → Calls Try.prog 31 #[ptr B, it nd] W1 (Post B base er C' W1)) :
    Calls Try.prog 18 #[ptr B, ordV 1 nd nm tx zn (.slice none 0 0)] W (Post B base er C' W) := by
  have hb := one_new W (.cells #[it 1, it nd, .string nm, .string tx, .string zn, .slice none 0 0] 35)
  have HC := Lib.hid (Ce.new W 35 #[it 1, it nd, .string nm, .string tx, .string zn, .slice none 0 0])
  have HF := Lib.hid (hf _ (hC.below hb) (hO.below hb) (Nat.le_trans hbs hb.size))
  have HB := Lib.hid (hb.mono hbs)
  clear hb hC hO hf
  go_enter Try.func18, Try.ntmps18
  go_upto_region 1 with fail
  generalize W.alloc _ = wA at *
  obtain ⟨c0, c1, c2, c3, c4, c5⟩ := c6 HC.out
  go_wp2_with fail
  refine HF.out.mono ?_
  rintro e w2 ⟨rfl, hb2, hp⟩
  have HB2 := Lib.hid (HB.out.trans hb2)
  have HP := Lib.hid hp
  clear hb2 hp
  go_wp2
  go_ret
  exact ⟨rfl, HB2.out, HP.out⟩
set_option maxRecDepth 100000 in
set_option maxHeartbeats 3200000 in
theorem change2 {W : World} {B base : Nat} {r h a fs : Value} {C C' : Cf} {er nd : Int} {nm tx zn : ByteArray} (hC : Ce W B 29 #[r, h, a, it C.epoch, fs]) (hO : OwnC W base r h a fs C) (_hB : base ≤ B) (hbs : base ≤ W.heap.size)
    (hf : ∀ W1, Ce W1 B 29 #[r, h, a, it C.epoch, fs] → OwnC W1 base r h a fs C → base ≤ W1.heap.size → Calls Try.prog 32 #[ptr B, it nd] W1 (Post B base er C' W1)) :
    Calls Try.prog 18 #[ptr B, ordV 2 nd nm tx zn (.slice none 0 0)] W (Post B base er C' W) := by
  have hb := one_new W (.cells #[it 2, it nd, .string nm, .string tx, .string zn, .slice none 0 0] 35)
  have HC := Lib.hid (Ce.new W 35 #[it 2, it nd, .string nm, .string tx, .string zn, .slice none 0 0])
  have HF := Lib.hid (hf _ (hC.below hb) (hO.below hb) (Nat.le_trans hbs hb.size))
  have HB := Lib.hid (hb.mono hbs)
  clear hb hC hO hf
  go_enter Try.func18, Try.ntmps18
  go_upto_region 1 with fail
  generalize W.alloc _ = wA at *
  obtain ⟨c0, c1, c2, c3, c4, c5⟩ := c6 HC.out
  go_wp2_with fail
  refine HF.out.mono ?_
  rintro e w2 ⟨rfl, hb2, hp⟩
  have HB2 := Lib.hid (HB.out.trans hb2)
  have HP := Lib.hid hp
  clear hb2 hp
  go_wp2
  go_ret
  exact ⟨rfl, HB2.out, HP.out⟩
theorem post_of_new {B base : Nat} {C : Cf} {R : List Int} {r h a fs : Value} {W : World} (hB : base ≤ B) (hbs : base ≤ W.heap.size) (hO : OwnC W base r h a fs C) {e : Ending} {W' : World}
    (hp : e = .returned (it 0) ∧ ∃ r', Ce W' B 29 #[r', h, a, it C.epoch, fs] ∧ OwnC W' base r' h a fs ⟨R, C.hints, C.anchors, C.epoch, C.flushes⟩ ∧ Tr (fun b => b = B ∨ r.ownBlock = some b) W W') : Post B base 0 (ringC C R) W e W' := by
  obtain ⟨rfl, r', h1, h2, h3⟩ := hp
  refine ⟨rfl, h3.below hbs (fun k hk => ?_), fun _ => ⟨_, _, _, _, h1, h2⟩⟩
  rcases hk with rfl | hk
  · exact hB
  · exact (hO.r.block k hk).1
theorem post_of_bad {B base : Nat} {C : Cf} {W : World} (hbs : base ≤ W.heap.size) {er : Int} (her : er ≠ 0) {e : Ending} {W' : World} (hp : e = .returned (it er) ∧ Below W.heap.size W W') : Post B base er C W e W' :=
  ⟨hp.1, hp.2.mono hbs, fun h => absurd h her⟩
theorem apply_ring {w : World} {r h a fs : Value} {C : Cf} {on : Nat → Bool} {k : Nat} {kd : Int} (hC : RdC w r h a fs C) (hok : C.Ok) (hring : C.ring = ringOf on) (hk : k < 64) (hkd : kd = 1 ∨ kd = 2) :
    Calls Try.prog 9 #[cv r h a C.epoch fs, ordV kd (k : Int) ⟨#[]⟩ ⟨#[]⟩ ⟨#[]⟩ (.slice none 0 0)] w fun e w' => ∃ r' h' a' fs' D er, e = .returned (.tuple #[cv r' h' a' D.epoch fs', it er]) ∧ OwnC w' w.heap.size r' h' a' fs' D ∧ Below w.heap.size w w' ∧
      ((er = 0 ∧ on k = decide (kd = 2) ∧ D = ringC C (ringOf (turn on k))) ∨ (er = 13 ∧ on k = !decide (kd = 2) ∧ D = C)) := by
  have hfit : fitB kd (k : Int) ⟨#[]⟩ ⟨#[]⟩ ⟨#[]⟩ [] = true := by rw [fit_join hkd]; simp [nodeB]; omega
  have hl : C.ring.length ≤ 1000 := hok.r
  by_cases hs : on k = decide (kd = 2)
  · refine (apply_any hC hok (k := kd) (nd := (k : Int)) (tx := ⟨#[]⟩) (RdX.nil w) (by decide) (by decide) (by decide) (ringC C (ringOf (turn on k))) (ringC C (ringOf (turn on k))) 0 (fun _ => rfl) (fun h => absurd rfl h) (fun W B base r h a fs h1 h2 h3 h4 _ => ?_) hfit).mono
      (fun e w' ⟨r', h', a', fs', he, ho, hb⟩ => ⟨r', h', a', fs', _, 0, he, ho, hb, .inl ⟨rfl, hs, rfl⟩⟩)
    rcases hkd with rfl | rfl
    · have hoff : on k = false := by rw [hs]; rfl
      obtain ⟨e1, e2⟩ := ringOf_join hk hoff
      refine change1 h1 h2 h3 h4 (fun W1 c1 o1 b1 => ?_)
      rw [e2]
      exact (addNode_new c1 o1 (hring.trans e1) hl rA_lt rB_gt b1).mono fun e W' hp => post_of_new h3 b1 o1 hp
    · have hon : on k = true := by rw [hs]; rfl
      obtain ⟨e1, e2⟩ := ringOf_leave hk hon
      refine change2 h1 h2 h3 h4 (fun W1 c1 o1 b1 => ?_)
      rw [e2]
      exact (remNode_has c1 o1 (hring.trans e1) hl (fun x hx => by have := rA_lt x hx; omega) ).mono fun e W' hp => post_of_new h3 b1 o1 hp
  · have hs' : on k = !decide (kd = 2) := by
      cases h1 : on k <;> cases h2 : decide (kd = 2) <;> simp_all
    refine (apply_any hC hok (k := kd) (nd := (k : Int)) (tx := ⟨#[]⟩) (RdX.nil w) (by decide) (by decide) (by decide) C C 13 (fun _ => rfl) (fun _ => rfl) (fun W B base r h a fs h1 h2 h3 h4 _ => ?_) hfit).mono
      (fun e w' ⟨r', h', a', fs', he, ho, hb⟩ => ⟨r', h', a', fs', _, 13, he, ho, hb, .inr ⟨rfl, hs', rfl⟩⟩)
    rcases hkd with rfl | rfl
    · have hon : on k = true := by rw [hs']; rfl
      exact change1 h1 h2 h3 h4 (fun W1 c1 o1 b1 => (addNode_old c1 o1 hl (by rw [hring]; exact (mem_ringOf hk).2 hon)).mono fun e W' hp => post_of_bad b1 (by decide) hp)
    · have hoff : on k = false := by rw [hs']; rfl
      exact change2 h1 h2 h3 h4 (fun W1 c1 o1 b1 => (remNode_none c1 o1 hl (by rw [hring, mem_ringOf hk, hoff]; simp)).mono fun e W' hp => post_of_bad b1 (by decide) hp)
end Go.Proofs.Ytjoplnkagfkffaa
