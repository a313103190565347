/-
  RefGet: What the document's Get answers, for every text and place; no older memory is changed.
  RefGet2: What the document's Get answers where numbers stand there: the types without names; no older memory is changed.
  RefGet3: What the document's Get answers where numbers stand there: the types with names; no older memory is changed.
  RGetAny: What the document's Get answers, for every text and place; no older memory is changed.
-/
import Derived.Test.YtljfkjbagebncaaG21

/- RefGet -/
namespace Go.Proofs.Ytljfkjbagebncaa
open Go.RowKit
/-- The four numbers, as they come one by one, and how far reading has come. -/
def ar (t c l z : Nat) : Nat → Array Value
  | 0 => #[.int .i64 0, .int .i64 0, .int .i64 0, .int .i64 0]
  | 1 => #[.int .i64 (t : Int), .int .i64 0, .int .i64 0, .int .i64 0]
  | 2 => #[.int .i64 (t : Int), .int .i64 (c : Int), .int .i64 0, .int .i64 0]
  | 3 => #[.int .i64 (t : Int), .int .i64 (c : Int), .int .i64 (l : Int), .int .i64 0]
  | _ => #[.int .i64 (t : Int), .int .i64 (c : Int), .int .i64 (l : Int), .int .i64 (z : Int)]
def ofs : Nat → Nat
  | 0 => 0
  | 1 => 2
  | 2 => 4
  | 3 => 8
  | _ => 10
theorem c4 {w : World} {n : Nat} {T : TypeId} {v0 v1 v2 v3 : Value} (h : Ce w n T #[v0, v1, v2, v3]) : w.cell? ⟨n, 0, none⟩ = some v0 ∧ w.cell? ⟨n, 1, none⟩ = some v1 ∧ w.cell? ⟨n, 2, none⟩ = some v2 ∧ w.cell? ⟨n, 3, none⟩ = some v3 := by
  refine ⟨?_, ?_, ?_, ?_⟩ <;> (rw [h.cell]; rfl)
/-- What the call knows: the result's block, the numbers' block. -/
structure RgI (w : World) (g : Nat) (cs : Array Value) (wr : World) : Prop where
  a : Ce wr w.heap.size 61 zc
  r : Ce wr g 64 cs
  b : Below w.heap.size w wr
theorem RgI.set {w wr : World} {g i : Nat} {cs cs' : Array Value} {v : Value} (h : RgI w g cs wr) (hg : w.heap.size < g) (e : cs.setIfInBounds i v = cs') : RgI w g cs' (wr.setCell ⟨g, i, none⟩ v) :=
  ⟨h.a.other (by omega) v, e ▸ h.r.set v, h.b.setCell (p := ⟨g, i, none⟩) (by show w.heap.size ≤ g; omega) v⟩
theorem RgI.under {w wr w' : World} {g : Nat} {cs : Array Value} (h : RgI w g cs wr) (hb : Below wr.heap.size wr w') : RgI w g cs w' :=
  ⟨h.a.below hb, h.r.below hb, h.b.trans (hb.mono h.b.size)⟩
theorem RgI.start {w w1 : World} (hb : Below (w.alloc (.cells zc 61)).heap.size (w.alloc (.cells zc 61)) w1) (cs : Array Value) : RgI w w1.heap.size cs (w1.alloc (.cells cs 64)) ∧ w.heap.size < w1.heap.size := by
  have h1 := (one_box w (.cells zc 61)).trans (hb.mono (one_box w (.cells zc 61)).size)
  have h2 := (Ce.new w 61 zc).below hb
  exact ⟨⟨h2.below (one_box _ _), Ce.new _ _ _, h1.alloc h1.size _⟩, h2.lt⟩
set_option maxRecDepth 100000 in
set_option maxHeartbeats 3200000 in
theorem rget_noname (s : ByteArray) (a : Int) (n : Bs) (p er : Nat) (he : er ≠ 0) (w : World)
    (C : ∀ w : World, Calls Try.prog 38 #[.string s, .int .i64 a] w fun e w' => e = .returned (.tuple #[str n, .int .i64 (p : Int), .int .i64 (er : Int)]) ∧ Below w.heap.size w w') :
    Calls Try.prog 77 #[.string s, .int .i64 a] w (GetPost w (zeroR, 0, (er : Int))) := by
  have HC := Lib.hid C
  have q : ((er : Int) == 0) = false := by simp; omega
  have q' : ((er : Int) != 0) = true := by simp; omega
  clear C he
  go_enter Try.func77, Try.ntmps77
  go_wp2_with fail
  refine (HC.out _).mono ?_
  rintro e w1 ⟨rfl, hb1⟩
  have bb1 := (one_box w (.cells zc 61)).trans (hb1.mono (one_box w (.cells zc 61)).size)
  have B0 := (Ce.new w 61 zc).below hb1
  clear hb1
  obtain ⟨ax0, ax1, ax2, ax3, ax4⟩ := c5 B0
  have af0 := B0.frozen 0
  have af1 := B0.frozen 1
  have af2 := B0.frozen 2
  have af3 := B0.frozen 3
  have af4 := B0.frozen 4
  have HZ := Lib.hid (set5_ce B0 (.string ⟨#[]⟩) (.int .u16 0) (.int .u16 0) (.int .u32 0) (.string ⟨#[]⟩))
  have HB := Lib.hid bb1
  clear B0 bb1
  go_wp2
  refine bodyPost_ret (res5tt rfl rfl HZ.out) rfl ?_
  exact gp_zero rfl (set5_below HB.out (Nat.le_refl _) _ _ _ _ _)
set_option maxRecDepth 100000 in
set_option maxHeartbeats 12800000 in
theorem rget_far (s : ByteArray) (hs : s.size ≤ 140737488351232) (a : Int) (n : Bs) (p : Nat) (hp : p ≤ s.data.toList.length) (hf : ¬ p + 10 ≤ s.data.toList.length) (w : World)
    (C : ∀ w : World, Calls Try.prog 38 #[.string s, .int .i64 a] w fun e w' => e = .returned (.tuple #[str n, .int .i64 (p : Int), .int .i64 0]) ∧ Below w.heap.size w w') :
    Calls Try.prog 77 #[.string s, .int .i64 a] w (GetPost w (zeroR, 0, 10)) := by
  have HC := Lib.hid C
  have hsl : s.data.toList.length ≤ 140737488351232 := by rw [← size_list]; exact hs
  clear C
  go_enter Try.func77, Try.ntmps77
  go_wp2_with fail
  refine (HC.out _).mono ?_
  rintro e w1 ⟨rfl, hb1⟩
  obtain ⟨hI0, hg0⟩ := RgI.start hb1 #[.int .i64 0, .int .i64 0, .int .i64 0, .int .i64 0]
  have HI0 := Lib.hid hI0
  clear hb1 hI0
  go_wp2
  go_loopw [8, 11] (fun x i wr => ∃ (k : Nat) (u0 u1 u2 u3 : Value), k ≤ 4 ∧ i = .int .i64 k ∧ x = .int .i64 ((p + ofs k : Nat) : Int) ∧ p + ofs k ≤ s.data.toList.length ∧ RgI w w1.heap.size #[u0, u1, u2, u3] wr) (fun _ i _ => 4 - (intOf i).toNat)
  case atStart => exact ⟨0, _, _, _, _, by omega, rfl, rfl, by show p + 0 ≤ _; omega, HI0.out⟩
  case round =>
    clear HI0
    obtain ⟨k, u0, u1, u2, u3, hk, rfl, rfl, hle, hI⟩ := hrel
    rcases (by omega : k = 0 ∨ k = 1 ∨ k = 2 ∨ k = 3 ∨ k = 4) with rfl | rfl | rfl | rfl | rfl
    · rw [show ofs 0 = 0 from rfl, show (((0 : Nat) : Int)) = 0 from rfl] at *
      rw [show ((p + 0 : Nat) : Int) = (p : Int) + 0 by omega]
      obtain ⟨cx0, cx1, cx2, cx3⟩ := c4 hI.r
      have cf := hI.r.frozen 0
      have C := rnumber_any s hs ((p + 0 : Nat) : Int) 2 (by omega) (by omega) wr
      by_cases hlt : p + 0 + 2 ≤ s.data.toList.length
      · obtain ⟨e1, e2, e3⟩ := pi_cut (s := s.data.toList) (a := p + 0) (z := 2) hlt
        have C2 : Calls Try.prog 37 #[.string s, .int .i64 ((p : Int) + 0), .int .i64 2] wr fun e w' => e = .returned (.tuple #[.int .i64 (numB (piS s.data.toList ((p + 0 : Nat) : Int) 2) : Int), .int .i64 ((p : Int) + 0 + 2), .int .i64 0]) ∧ wr = w' := by
          have : (nuV .i64 s.data.toList ((p + 0 : Nat) : Int) 2) = .tuple #[.int .i64 (numB (piS s.data.toList ((p + 0 : Nat) : Int) 2) : Int), .int .i64 ((p : Int) + 0 + 2), .int .i64 0] := by
            unfold nuV; rw [show (2 : Int) = ((2 : Nat) : Int) from rfl, e2, e3]; rfl
          rw [this] at C; exact C
        generalize numB (piS s.data.toList ((p + 0 : Nat) : Int) 2) = v at C2
        have HC2 := Lib.hid C2
        have HI := Lib.hid hI
        clear C C2 e1 e2 e3 hI
        go_wp2_with fail
        refine HC2.out.mono ?_
        rintro e w' ⟨rfl, rfl⟩
        go_wp2
        go_roundw
        case rel => exact ⟨1, _, u1, u2, u3, by omega, rfl, by show _ = Value.int .i64 ((p + 2 : Nat) : Int); congr 1 <;> omega, by show p + 2 ≤ _; omega, HI.out.set hg0 rfl⟩
        case measure => simp [intOf]
      · have C2 : Calls Try.prog 37 #[.string s, .int .i64 ((p : Int) + 0), .int .i64 2] wr fun e w' => e = .returned (.tuple #[.int .i64 (numB (piS s.data.toList ((p + 0 : Nat) : Int) 2) : Int), .int .i64 0, .int .i64 10]) ∧ wr = w' := by
          obtain ⟨e1, e2, e3⟩ := pi_no (s := s.data.toList) (a := ((p + 0 : Nat) : Int)) (n := 2) (piE_no (by omega))
          have : (nuV .i64 s.data.toList ((p + 0 : Nat) : Int) 2) = .tuple #[.int .i64 (numB (piS s.data.toList ((p + 0 : Nat) : Int) 2) : Int), .int .i64 0, .int .i64 10] := by
            unfold nuV; rw [e2, e3]
          rw [this] at C; exact C
        generalize numB (piS s.data.toList ((p + 0 : Nat) : Int) 2) = v at C2
        have HC2 := Lib.hid C2
        obtain ⟨ax0, ax1, ax2, ax3, ax4⟩ := c5 hI.a
        have af0 := hI.a.frozen 0
        have af1 := hI.a.frozen 1
        have af2 := hI.a.frozen 2
        have af3 := hI.a.frozen 3
        have af4 := hI.a.frozen 4
        have HZ := Lib.hid (set5_ce hI.a (.string ⟨#[]⟩) (.int .u16 0) (.int .u16 0) (.int .u32 0) (.string ⟨#[]⟩))
        have HB := Lib.hid hI.b
        clear C C2 hI
        go_wp2_with fail
        refine HC2.out.mono ?_
        rintro e w' ⟨rfl, rfl⟩
        go_wp2
        refine bodyPost_ret (res5tt rfl rfl HZ.out) rfl ?_
        exact gp_zero rfl (set5_below HB.out (Nat.le_refl _) _ _ _ _ _)
    · rw [show ofs 1 = 2 from rfl] at *
      rw [show ((p + 2 : Nat) : Int) = (p : Int) + 2 by omega, show (((1 : Nat) : Int)) = 1 from rfl]
      obtain ⟨cx0, cx1, cx2, cx3⟩ := c4 hI.r
      have cf := hI.r.frozen 1
      have C := rnumber_any s hs ((p + 2 : Nat) : Int) 2 (by omega) (by omega) wr
      by_cases hlt : p + 2 + 2 ≤ s.data.toList.length
      · obtain ⟨e1, e2, e3⟩ := pi_cut (s := s.data.toList) (a := p + 2) (z := 2) hlt
        have C2 : Calls Try.prog 37 #[.string s, .int .i64 ((p : Int) + 2), .int .i64 2] wr fun e w' => e = .returned (.tuple #[.int .i64 (numB (piS s.data.toList ((p + 2 : Nat) : Int) 2) : Int), .int .i64 ((p : Int) + 2 + 2), .int .i64 0]) ∧ wr = w' := by
          have : (nuV .i64 s.data.toList ((p + 2 : Nat) : Int) 2) = .tuple #[.int .i64 (numB (piS s.data.toList ((p + 2 : Nat) : Int) 2) : Int), .int .i64 ((p : Int) + 2 + 2), .int .i64 0] := by
            unfold nuV; rw [show (2 : Int) = ((2 : Nat) : Int) from rfl, e2, e3]; rfl
          rw [this] at C; exact C
        generalize numB (piS s.data.toList ((p + 2 : Nat) : Int) 2) = v at C2
        have HC2 := Lib.hid C2
        have HI := Lib.hid hI
        clear C C2 e1 e2 e3 hI
        go_wp2_with fail
        refine HC2.out.mono ?_
        rintro e w' ⟨rfl, rfl⟩
        go_wp2
        go_roundw
        case rel => exact ⟨2, u0, _, u2, u3, by omega, rfl, by show _ = Value.int .i64 ((p + 4 : Nat) : Int); congr 1 <;> omega, by show p + 4 ≤ _; omega, HI.out.set hg0 rfl⟩
        case measure => simp [intOf]
      · have C2 : Calls Try.prog 37 #[.string s, .int .i64 ((p : Int) + 2), .int .i64 2] wr fun e w' => e = .returned (.tuple #[.int .i64 (numB (piS s.data.toList ((p + 2 : Nat) : Int) 2) : Int), .int .i64 0, .int .i64 10]) ∧ wr = w' := by
          obtain ⟨e1, e2, e3⟩ := pi_no (s := s.data.toList) (a := ((p + 2 : Nat) : Int)) (n := 2) (piE_no (by omega))
          have : (nuV .i64 s.data.toList ((p + 2 : Nat) : Int) 2) = .tuple #[.int .i64 (numB (piS s.data.toList ((p + 2 : Nat) : Int) 2) : Int), .int .i64 0, .int .i64 10] := by
            unfold nuV; rw [e2, e3]
          rw [this] at C; exact C
        generalize numB (piS s.data.toList ((p + 2 : Nat) : Int) 2) = v at C2
        have HC2 := Lib.hid C2
        obtain ⟨ax0, ax1, ax2, ax3, ax4⟩ := c5 hI.a
        have af0 := hI.a.frozen 0
        have af1 := hI.a.frozen 1
        have af2 := hI.a.frozen 2
        have af3 := hI.a.frozen 3
        have af4 := hI.a.frozen 4
        have HZ := Lib.hid (set5_ce hI.a (.string ⟨#[]⟩) (.int .u16 0) (.int .u16 0) (.int .u32 0) (.string ⟨#[]⟩))
        have HB := Lib.hid hI.b
        clear C C2 hI
        go_wp2_with fail
        refine HC2.out.mono ?_
        rintro e w' ⟨rfl, rfl⟩
        go_wp2
        refine bodyPost_ret (res5tt rfl rfl HZ.out) rfl ?_
        exact gp_zero rfl (set5_below HB.out (Nat.le_refl _) _ _ _ _ _)
    · rw [show ofs 2 = 4 from rfl] at *
      rw [show ((p + 4 : Nat) : Int) = (p : Int) + 4 by omega, show (((2 : Nat) : Int)) = 2 from rfl]
      obtain ⟨cx0, cx1, cx2, cx3⟩ := c4 hI.r
      have cf := hI.r.frozen 2
      have C := rnumber_any s hs ((p + 4 : Nat) : Int) 4 (by omega) (by omega) wr
      by_cases hlt : p + 4 + 4 ≤ s.data.toList.length
      · obtain ⟨e1, e2, e3⟩ := pi_cut (s := s.data.toList) (a := p + 4) (z := 4) hlt
        have C2 : Calls Try.prog 37 #[.string s, .int .i64 ((p : Int) + 4), .int .i64 4] wr fun e w' => e = .returned (.tuple #[.int .i64 (numB (piS s.data.toList ((p + 4 : Nat) : Int) 4) : Int), .int .i64 ((p : Int) + 4 + 4), .int .i64 0]) ∧ wr = w' := by
          have : (nuV .i64 s.data.toList ((p + 4 : Nat) : Int) 4) = .tuple #[.int .i64 (numB (piS s.data.toList ((p + 4 : Nat) : Int) 4) : Int), .int .i64 ((p : Int) + 4 + 4), .int .i64 0] := by
            unfold nuV; rw [show (4 : Int) = ((4 : Nat) : Int) from rfl, e2, e3]; rfl
          rw [this] at C; exact C
        generalize numB (piS s.data.toList ((p + 4 : Nat) : Int) 4) = v at C2
        have HC2 := Lib.hid C2
        have HI := Lib.hid hI
        clear C C2 e1 e2 e3 hI
        go_wp2_with fail
        refine HC2.out.mono ?_
        rintro e w' ⟨rfl, rfl⟩
        go_wp2
        go_roundw
        case rel => exact ⟨3, u0, u1, _, u3, by omega, rfl, by show _ = Value.int .i64 ((p + 8 : Nat) : Int); congr 1 <;> omega, by show p + 8 ≤ _; omega, HI.out.set hg0 rfl⟩
        case measure => simp [intOf]
      · have C2 : Calls Try.prog 37 #[.string s, .int .i64 ((p : Int) + 4), .int .i64 4] wr fun e w' => e = .returned (.tuple #[.int .i64 (numB (piS s.data.toList ((p + 4 : Nat) : Int) 4) : Int), .int .i64 0, .int .i64 10]) ∧ wr = w' := by
          obtain ⟨e1, e2, e3⟩ := pi_no (s := s.data.toList) (a := ((p + 4 : Nat) : Int)) (n := 4) (piE_no (by omega))
          have : (nuV .i64 s.data.toList ((p + 4 : Nat) : Int) 4) = .tuple #[.int .i64 (numB (piS s.data.toList ((p + 4 : Nat) : Int) 4) : Int), .int .i64 0, .int .i64 10] := by
            unfold nuV; rw [e2, e3]
          rw [this] at C; exact C
        generalize numB (piS s.data.toList ((p + 4 : Nat) : Int) 4) = v at C2
        have HC2 := Lib.hid C2
        obtain ⟨ax0, ax1, ax2, ax3, ax4⟩ := c5 hI.a
        have af0 := hI.a.frozen 0
        have af1 := hI.a.frozen 1
        have af2 := hI.a.frozen 2
        have af3 := hI.a.frozen 3
        have af4 := hI.a.frozen 4
        have HZ := Lib.hid (set5_ce hI.a (.string ⟨#[]⟩) (.int .u16 0) (.int .u16 0) (.int .u32 0) (.string ⟨#[]⟩))
        have HB := Lib.hid hI.b
        clear C C2 hI
        go_wp2_with fail
        refine HC2.out.mono ?_
        rintro e w' ⟨rfl, rfl⟩
        go_wp2
        refine bodyPost_ret (res5tt rfl rfl HZ.out) rfl ?_
        exact gp_zero rfl (set5_below HB.out (Nat.le_refl _) _ _ _ _ _)
    · rw [show ofs 3 = 8 from rfl] at *
      rw [show ((p + 8 : Nat) : Int) = (p : Int) + 8 by omega, show (((3 : Nat) : Int)) = 3 from rfl]
      obtain ⟨cx0, cx1, cx2, cx3⟩ := c4 hI.r
      have cf := hI.r.frozen 3
      have C := rnumber_any s hs ((p + 8 : Nat) : Int) 2 (by omega) (by omega) wr
      by_cases hlt : p + 8 + 2 ≤ s.data.toList.length
      · exact absurd hlt hf
      · have C2 : Calls Try.prog 37 #[.string s, .int .i64 ((p : Int) + 8), .int .i64 2] wr fun e w' => e = .returned (.tuple #[.int .i64 (numB (piS s.data.toList ((p + 8 : Nat) : Int) 2) : Int), .int .i64 0, .int .i64 10]) ∧ wr = w' := by
          obtain ⟨e1, e2, e3⟩ := pi_no (s := s.data.toList) (a := ((p + 8 : Nat) : Int)) (n := 2) (piE_no (by omega))
          have : (nuV .i64 s.data.toList ((p + 8 : Nat) : Int) 2) = .tuple #[.int .i64 (numB (piS s.data.toList ((p + 8 : Nat) : Int) 2) : Int), .int .i64 0, .int .i64 10] := by
            unfold nuV; rw [e2, e3]
          rw [this] at C; exact C
        generalize numB (piS s.data.toList ((p + 8 : Nat) : Int) 2) = v at C2
        have HC2 := Lib.hid C2
        obtain ⟨ax0, ax1, ax2, ax3, ax4⟩ := c5 hI.a
        have af0 := hI.a.frozen 0
        have af1 := hI.a.frozen 1
        have af2 := hI.a.frozen 2
        have af3 := hI.a.frozen 3
        have af4 := hI.a.frozen 4
        have HZ := Lib.hid (set5_ce hI.a (.string ⟨#[]⟩) (.int .u16 0) (.int .u16 0) (.int .u32 0) (.string ⟨#[]⟩))
        have HB := Lib.hid hI.b
        clear C C2 hI
        go_wp2_with fail
        refine HC2.out.mono ?_
        rintro e w' ⟨rfl, rfl⟩
        go_wp2
        refine bodyPost_ret (res5tt rfl rfl HZ.out) rfl ?_
        exact gp_zero rfl (set5_below HB.out (Nat.le_refl _) _ _ _ _ _)
    · exact absurd hle hf
end Go.Proofs.Ytljfkjbagebncaa

/- RefGet2 -/
namespace Go.Proofs.Ytljfkjbagebncaa
open Go.RowKit
set_option maxRecDepth 100000 in
set_option maxHeartbeats 12800000 in
theorem rget_plain (s : ByteArray) (a : Int) (n : ByteArray) (p t c l z : Nat) (ht : t < 65536) (hc : c < 65536) (hl : l < 4294967296) (P F ck : Int)
    (C : ∀ w : World, Calls Try.prog 38 #[.string s, .int .i64 a] w fun e w' => e = .returned (.tuple #[.string n, .int .i64 (p : Int), .int .i64 0]) ∧ Below w.heap.size w w')
    (N0 : ∀ w : World, Calls Try.prog 37 #[.string s, .int .i64 (p : Int), .int .i64 2] w fun e w' => e = .returned (.tuple #[.int .i64 (t : Int), .int .i64 ((p : Int) + 2), .int .i64 0]) ∧ w = w')
    (N1 : ∀ w : World, Calls Try.prog 37 #[.string s, .int .i64 ((p : Int) + 2), .int .i64 2] w fun e w' => e = .returned (.tuple #[.int .i64 (c : Int), .int .i64 ((p : Int) + 4), .int .i64 0]) ∧ w = w')
    (N2 : ∀ w : World, Calls Try.prog 37 #[.string s, .int .i64 ((p : Int) + 4), .int .i64 4] w fun e w' => e = .returned (.tuple #[.int .i64 (l : Int), .int .i64 ((p : Int) + 8), .int .i64 0]) ∧ w = w')
    (N3 : ∀ w : World, Calls Try.prog 37 #[.string s, .int .i64 ((p : Int) + 8), .int .i64 2] w fun e w' => e = .returned (.tuple #[.int .i64 (z : Int), .int .i64 ((p : Int) + 10), .int .i64 0]) ∧ w = w')
    (d : ByteArray) (w : World)
    (E : ∀ w : World, Calls Try.prog 75 #[.string s, .int .i64 ((p : Int) + 10), .int .i64 (z : Int)] w fun e w' => e = .returned (.tuple #[.string d, .int .i64 P, .int .i64 F]) ∧ w = w')
    (H : ∀ w : World, Calls Try.prog 107 #[.int .u16 (t : Int)] w fun e w' => e = .returned (.tuple #[.int .i64 0, .int .i64 0, .int .i64 0, .bool false]) ∧ w = w')
    (V : ∀ w : World, Calls Try.prog 97 #[.agg #[.string n, .int .u16 (t : Int), .int .u16 (c : Int), .int .u32 (l : Int), .string d]] w fun e w' => e = .returned (.int .i64 ck) ∧ Below w.heap.size w w') :
    Calls Try.prog 77 #[.string s, .int .i64 a] w (GetPost w (gtW F 0 P P ck ⟨n, t, c, l, d⟩)) := by
  have HE := Lib.hid E
  have HH := Lib.hid H
  have HV := Lib.hid V
  clear E H V
  obtain ⟨rs, hrs⟩ : ∃ rs, rs = gtW F 0 P P ck ⟨n, t, c, l, d⟩ := ⟨_, rfl⟩
  rw [← hrs]
  have HR := Lib.hid hrs
  clear hrs
  have D0 := Lib.hid N0
  have D1 := Lib.hid N1
  have D2 := Lib.hid N2
  have D3 := Lib.hid N3
  have HC := Lib.hid C
  have hti : (t : Int) < 65536 := by omega
  have hci : (c : Int) < 65536 := by omega
  have hlli : (l : Int) < 4294967296 := by omega
  clear N0 N1 N2 N3 C
  go_enter Try.func77, Try.ntmps77
  go_wp2_with fail
  refine (HC.out _).mono ?_
  rintro e w1 ⟨rfl, hb1⟩
  obtain ⟨hI0, hg0⟩ := RgI.start hb1 #[.int .i64 0, .int .i64 0, .int .i64 0, .int .i64 0]
  have HI0 := Lib.hid hI0
  clear hb1 hI0
  go_wp2
  go_loopw [8, 11] (fun x i wr => ∃ k : Nat, k ≤ 4 ∧ i = .int .i64 k ∧ x = .int .i64 ((p + ofs k : Nat) : Int) ∧ RgI w w1.heap.size (ar t c l z k) wr) (fun _ i _ => 4 - (intOf i).toNat)
  case atStart => exact ⟨0, by omega, rfl, rfl, HI0.out⟩
  case round =>
    clear HI0
    obtain ⟨k, hk, rfl, rfl, hI⟩ := hrel
    rcases (by omega : k = 0 ∨ k = 1 ∨ k = 2 ∨ k = 3 ∨ k = 4) with rfl | rfl | rfl | rfl | rfl
    · rw [show ofs 0 = 0 from rfl, show ((p + 0 : Nat) : Int) = (p : Int) by omega, show (((0 : Nat) : Int)) = 0 from rfl]
      obtain ⟨cx0, cx1, cx2, cx3⟩ := c4 (show Ce wr w1.heap.size 64 #[.int .i64 0, .int .i64 0, .int .i64 0, .int .i64 0] from hI.r)
      have cf := hI.r.frozen 0
      have HI := Lib.hid hI
      clear hI
      go_wp2_with fail
      refine (D0.out wr).mono ?_
      rintro e w' ⟨rfl, rfl⟩
      go_wp2
      go_roundw
      case rel => exact ⟨1, by omega, rfl, by show _ = Value.int .i64 ((p + 2 : Nat) : Int); congr 1 <;> omega, HI.out.set hg0 rfl⟩
      case measure => simp [intOf]
    · rw [show ofs 1 = 2 from rfl, show ((p + 2 : Nat) : Int) = (p : Int) + 2 by omega, show (((1 : Nat) : Int)) = 1 from rfl]
      obtain ⟨cx0, cx1, cx2, cx3⟩ := c4 (show Ce wr w1.heap.size 64 #[.int .i64 (t : Int), .int .i64 0, .int .i64 0, .int .i64 0] from hI.r)
      have cf := hI.r.frozen 1
      have HI := Lib.hid hI
      clear hI
      go_wp2_with fail
      refine (D1.out wr).mono ?_
      rintro e w' ⟨rfl, rfl⟩
      go_wp2
      go_roundw
      case rel => exact ⟨2, by omega, rfl, by show _ = Value.int .i64 ((p + 4 : Nat) : Int); congr 1 <;> omega, HI.out.set hg0 rfl⟩
      case measure => simp [intOf]
    · rw [show ofs 2 = 4 from rfl, show ((p + 4 : Nat) : Int) = (p : Int) + 4 by omega, show (((2 : Nat) : Int)) = 2 from rfl]
      obtain ⟨cx0, cx1, cx2, cx3⟩ := c4 (show Ce wr w1.heap.size 64 #[.int .i64 (t : Int), .int .i64 (c : Int), .int .i64 0, .int .i64 0] from hI.r)
      have cf := hI.r.frozen 2
      have HI := Lib.hid hI
      clear hI
      go_wp2_with fail
      refine (D2.out wr).mono ?_
      rintro e w' ⟨rfl, rfl⟩
      go_wp2
      go_roundw
      case rel => exact ⟨3, by omega, rfl, by show _ = Value.int .i64 ((p + 8 : Nat) : Int); congr 1 <;> omega, HI.out.set hg0 rfl⟩
      case measure => simp [intOf]
    · rw [show ofs 3 = 8 from rfl, show ((p + 8 : Nat) : Int) = (p : Int) + 8 by omega, show (((3 : Nat) : Int)) = 3 from rfl]
      obtain ⟨cx0, cx1, cx2, cx3⟩ := c4 (show Ce wr w1.heap.size 64 #[.int .i64 (t : Int), .int .i64 (c : Int), .int .i64 (l : Int), .int .i64 0] from hI.r)
      have cf := hI.r.frozen 3
      have HI := Lib.hid hI
      clear hI
      go_wp2_with fail
      refine (D3.out wr).mono ?_
      rintro e w' ⟨rfl, rfl⟩
      go_wp2
      go_roundw
      case rel => exact ⟨4, by omega, rfl, by show _ = Value.int .i64 ((p + 10 : Nat) : Int); congr 1 <;> omega, HI.out.set hg0 rfl⟩
      case measure => simp [intOf]
    · rw [show ofs 4 = 10 from rfl, show ((p + 10 : Nat) : Int) = (p : Int) + 10 by omega, show (((4 : Nat) : Int)) = 4 from rfl]
      have hR : Ce wr w1.heap.size 64 #[.int .i64 (t : Int), .int .i64 (c : Int), .int .i64 (l : Int), .int .i64 (z : Int)] := hI.r
      obtain ⟨cx0, cx1, cx2, cx3⟩ := c4 hR
      have HI := Lib.hid hI
      clear hR
      go_wp2_with fail
      refine (HE.out _).mono ?_
      rintro e w' ⟨rfl, rfl⟩
      by_cases g1 : F = 0
      · subst g1
        clear hI
        have HK := Lib.hid (Ce.new wr 61 #[.string n, .int .u16 (t : Int), .int .u16 (c : Int), .int .u32 (l : Int), .string d])
        have HU := Lib.hid (HI.out.under (one_box wr (.cells #[.string n, .int .u16 (t : Int), .int .u16 (c : Int), .int .u32 (l : Int), .string d] 61)))
        go_wp2_with fail
        refine (HH.out _).mono ?_
        rintro e w' ⟨rfl, rfl⟩
        go_wp2_with fail
        refine (HV.out _).mono ?_
        rintro e w7 ⟨rfl, hb7⟩
        have hU := HU.out.under hb7
        have T7 := HK.out.below hb7
        obtain ⟨tx0, tx1, tx2, tx3, tx4⟩ := c5 T7
        clear hb7 cx0 cx1 cx2 cx3
        by_cases g4 : ck = 0
        · subst g4
          obtain ⟨ax0, ax1, ax2, ax3, ax4⟩ := c5 hU.a
          have af0 := hU.a.frozen 0
          have af1 := hU.a.frozen 1
          have af2 := hU.a.frozen 2
          have af3 := hU.a.frozen 3
          have af4 := hU.a.frozen 4
          have HZ := Lib.hid (set5_ce hU.a (.string n) (.int .u16 (t : Int)) (.int .u16 (c : Int)) (.int .u32 (l : Int)) (.string d))
          have HB := Lib.hid hU.b
          have hrr : Hid (rs = (⟨n, t, c, l, d⟩, P, 0)) := Lib.hid (by rw [HR.out]; unfold gtW; rw [if_pos rfl, if_pos rfl, if_pos rfl, if_pos rfl])
          clear hU T7
          go_wp2
          refine bodyPost_ret (res5tt rfl rfl HZ.out) rfl ?_
          rw [hrr.out]
          exact ⟨rfl, set5_below HB.out (Nat.le_refl _) _ _ _ _ _⟩
        · have q4 : (ck == 0) = false := by simpa using g4
          have q4' : (ck != 0) = true := by simpa using g4
          have hrr : Hid (rs = (zeroR, 0, ck)) := Lib.hid (by rw [HR.out]; unfold gtW; rw [if_pos rfl, if_pos rfl, if_pos rfl, if_neg g4])
          clear g4
          obtain ⟨ax0, ax1, ax2, ax3, ax4⟩ := c5 hU.a
          have af0 := hU.a.frozen 0
          have af1 := hU.a.frozen 1
          have af2 := hU.a.frozen 2
          have af3 := hU.a.frozen 3
          have af4 := hU.a.frozen 4
          have HZ := Lib.hid (set5_ce hU.a (.string ⟨#[]⟩) (.int .u16 0) (.int .u16 0) (.int .u32 0) (.string ⟨#[]⟩))
          have HB := Lib.hid hU.b
          clear hU T7
          go_wp2
          refine bodyPost_ret (res5tt rfl rfl HZ.out) rfl ?_
          exact gp_zero hrr.out (set5_below HB.out (Nat.le_refl _) _ _ _ _ _)
      · have q1 : (F == 0) = false := by simpa using g1
        have q1' : (F != 0) = true := by simpa using g1
        have hrr : Hid (rs = (zeroR, 0, F)) := Lib.hid (by rw [HR.out]; unfold gtW; rw [if_neg g1])
        clear g1
        obtain ⟨ax0, ax1, ax2, ax3, ax4⟩ := c5 hI.a
        have af0 := hI.a.frozen 0
        have af1 := hI.a.frozen 1
        have af2 := hI.a.frozen 2
        have af3 := hI.a.frozen 3
        have af4 := hI.a.frozen 4
        have HZ := Lib.hid (set5_ce hI.a (.string ⟨#[]⟩) (.int .u16 0) (.int .u16 0) (.int .u32 0) (.string ⟨#[]⟩))
        have HB := Lib.hid hI.b
        clear hI
        go_wp2
        refine bodyPost_ret (res5tt rfl rfl HZ.out) rfl ?_
        exact gp_zero hrr.out (set5_below HB.out (Nat.le_refl _) _ _ _ _ _)

end Go.Proofs.Ytljfkjbagebncaa

/- RefGet3 -/
namespace Go.Proofs.Ytljfkjbagebncaa
open Go.RowKit
/-- What the call knows behind the numbers: the result's block, the record's. -/
structure RgJ (w : World) (g : Nat) (cs : Array Value) (wr : World) : Prop where
  a : Ce wr w.heap.size 61 zc
  r : Ce wr g 61 cs
  b : Below w.heap.size w wr
  h : w.heap.size < g
theorem RgJ.under {w wr w' : World} {g : Nat} {cs : Array Value} (h : RgJ w g cs wr) (hb : Below wr.heap.size wr w') : RgJ w g cs w' :=
  ⟨h.a.below hb, h.r.below hb, h.b.trans (hb.mono h.b.size), h.h⟩
theorem RgI.recd {w wr : World} {g : Nat} {cs : Array Value} (h : RgI w g cs wr) (ds : Array Value) : RgJ w wr.heap.size ds (wr.alloc (.cells ds 61)) :=
  ⟨h.a.below (one_box _ _), Ce.new _ _ _, (h.under (one_box _ _)).b, h.a.lt⟩
theorem RgJ.set {w wr : World} {g i : Nat} {cs cs' : Array Value} {v : Value} (h : RgJ w g cs wr) (e : cs.setIfInBounds i v = cs') : RgJ w g cs' (wr.setCell ⟨g, i, none⟩ v) :=
  ⟨h.a.other (by have := h.h; omega) v, e ▸ h.r.set v, h.b.setCell (p := ⟨g, i, none⟩) (by show w.heap.size ≤ g; have := h.h; omega) v, h.h⟩
set_option maxRecDepth 100000 in
set_option maxHeartbeats 25600000 in
theorem rget_named (s : ByteArray) (a : Int) (n : ByteArray) (p t c l z : Nat) (ht : t < 65536) (hc : c < 65536) (hl : l < 4294967296) (P F ck : Int)
    (C : ∀ w : World, Calls Try.prog 38 #[.string s, .int .i64 a] w fun e w' => e = .returned (.tuple #[.string n, .int .i64 (p : Int), .int .i64 0]) ∧ Below w.heap.size w w')
    (N0 : ∀ w : World, Calls Try.prog 37 #[.string s, .int .i64 (p : Int), .int .i64 2] w fun e w' => e = .returned (.tuple #[.int .i64 (t : Int), .int .i64 ((p : Int) + 2), .int .i64 0]) ∧ w = w')
    (N1 : ∀ w : World, Calls Try.prog 37 #[.string s, .int .i64 ((p : Int) + 2), .int .i64 2] w fun e w' => e = .returned (.tuple #[.int .i64 (c : Int), .int .i64 ((p : Int) + 4), .int .i64 0]) ∧ w = w')
    (N2 : ∀ w : World, Calls Try.prog 37 #[.string s, .int .i64 ((p : Int) + 4), .int .i64 4] w fun e w' => e = .returned (.tuple #[.int .i64 (l : Int), .int .i64 ((p : Int) + 8), .int .i64 0]) ∧ w = w')
    (N3 : ∀ w : World, Calls Try.prog 37 #[.string s, .int .i64 ((p : Int) + 8), .int .i64 2] w fun e w' => e = .returned (.tuple #[.int .i64 (z : Int), .int .i64 ((p : Int) + 10), .int .i64 0]) ∧ w = w')
    (X : ByteArray) (A N B : Nat) (hA : A ≤ 2) (hN : N ≤ 2) (hB : B ≤ 20) (hs : s.size ≤ 1000000) (jd : Bs) (jn je : Int) (hp : p + 10 ≤ s.data.toList.length)
    (hJ : jr [] (rdP s.data.toList ((A : Int) :: (List.replicate N (-1) ++ [(B : Int)])) ((p : Int) + 10)) = (jd, jn, je)) (w : World)
    (E : ∀ w : World, Calls Try.prog 75 #[.string s, .int .i64 ((p : Int) + 10), .int .i64 (z : Int)] w fun e w' => e = .returned (.tuple #[.string X, .int .i64 P, .int .i64 F]) ∧ w = w')
    (H : ∀ w : World, Calls Try.prog 107 #[.int .u16 (t : Int)] w fun e w' => e = .returned (.tuple #[.int .i64 (A : Int), .int .i64 (N : Int), .int .i64 (B : Int), .bool true]) ∧ w = w')
    (V : ∀ w : World, Calls Try.prog 97 #[.agg #[.string n, .int .u16 (t : Int), .int .u16 (c : Int), .int .u32 (l : Int), str jd]] w fun e w' => e = .returned (.int .i64 ck) ∧ Below w.heap.size w w') :
    Calls Try.prog 77 #[.string s, .int .i64 a] w (GetPost w (gtW F je jn P ck ⟨n, t, c, l, ⟨jd.toArray⟩⟩)) := by
  have HE := Lib.hid E
  have HH := Lib.hid H
  have HV := Lib.hid V
  clear E H V
  have hs' : s.size ≤ 140737488351232 := by omega
  have hsl := size_list s
  have hNi : (N : Int) ≤ 2 := by omega
  have hAi : (A : Int) ≤ 2 := by omega
  have hBi : (B : Int) ≤ 20 := by omega
  have RA := fun w => rraw_any s hs' ((p : Int) + 10) (A : Int) (by omega) (by omega) w
  have e1 : rd1 s.data.toList ((p : Int) + 10) (A : Int) = (piS s.data.toList ((p : Int) + 10) (A : Int), piP s.data.toList ((p : Int) + 10) (A : Int), piR s.data.toList ((p : Int) + 10) (A : Int)) := if_neg (by omega)
  unfold pcV at RA
  have hAB : Hid (piR s.data.toList ((p : Int) + 10) (A : Int) ≠ 0 → je = piR s.data.toList ((p : Int) + 10) (A : Int)) := Lib.hid fun h => by
    rw [jr_bad (by rw [e1]; exact h), e1] at hJ
    exact (congrArg (fun x => x.2.2) hJ).symm
  have hAG : Hid (piR s.data.toList ((p : Int) + 10) (A : Int) = 0 → jr (piS s.data.toList ((p : Int) + 10) (A : Int)) (rdP s.data.toList (List.replicate N (-1) ++ [(B : Int)]) (piP s.data.toList ((p : Int) + 10) (A : Int))) = (jd, jn, je)) := Lib.hid fun h => by
    rw [h] at e1
    rw [jr_go e1, List.nil_append] at hJ
    exact hJ
  have hxl := piS_le s.data.toList ((p : Int) + 10) (A : Int)
  have hbb := piP_bd s.data.toList ((p : Int) + 10) (A : Int)
  clear hJ e1
  generalize piS s.data.toList ((p : Int) + 10) (A : Int) = xA at RA hAG hxl
  generalize piP s.data.toList ((p : Int) + 10) (A : Int) = bA at RA hAG hbb
  generalize piR s.data.toList ((p : Int) + 10) (A : Int) = eA at RA hAG hAB
  have HRA := Lib.hid RA
  have HSL := Lib.hid hsl
  rw [← hsl] at hxl hbb
  clear RA hsl hp
  obtain ⟨rs, hrs⟩ : ∃ rs, rs = gtW F je jn P ck ⟨n, t, c, l, ⟨jd.toArray⟩⟩ := ⟨_, rfl⟩
  rw [← hrs]
  have HR := Lib.hid hrs
  clear hrs
  have D0 := Lib.hid N0
  have D1 := Lib.hid N1
  have D2 := Lib.hid N2
  have D3 := Lib.hid N3
  have HC := Lib.hid C
  have hti : (t : Int) < 65536 := by omega
  have hci : (c : Int) < 65536 := by omega
  have hlli : (l : Int) < 4294967296 := by omega
  clear N0 N1 N2 N3 C
  go_enter Try.func77, Try.ntmps77
  go_wp2_with fail
  refine (HC.out _).mono ?_
  rintro e w1 ⟨rfl, hb1⟩
  obtain ⟨hI0, hg0⟩ := RgI.start hb1 #[.int .i64 0, .int .i64 0, .int .i64 0, .int .i64 0]
  have HI0 := Lib.hid hI0
  clear hb1 hI0
  go_wp2
  go_loopw [8, 11] (fun x i wr => ∃ k : Nat, k ≤ 4 ∧ i = .int .i64 k ∧ x = .int .i64 ((p + ofs k : Nat) : Int) ∧ RgI w w1.heap.size (ar t c l z k) wr) (fun _ i _ => 4 - (intOf i).toNat)
  case atStart => exact ⟨0, by omega, rfl, rfl, HI0.out⟩
  case round =>
    clear HI0
    obtain ⟨k, hk, rfl, rfl, hI⟩ := hrel
    rcases (by omega : k = 0 ∨ k = 1 ∨ k = 2 ∨ k = 3 ∨ k = 4) with rfl | rfl | rfl | rfl | rfl
    · rw [show ofs 0 = 0 from rfl, show ((p + 0 : Nat) : Int) = (p : Int) by omega, show (((0 : Nat) : Int)) = 0 from rfl]
      obtain ⟨cx0, cx1, cx2, cx3⟩ := c4 (show Ce wr w1.heap.size 64 #[.int .i64 0, .int .i64 0, .int .i64 0, .int .i64 0] from hI.r)
      have cf := hI.r.frozen 0
      have HI := Lib.hid hI
      clear hI
      go_wp2_with fail
      refine (D0.out wr).mono ?_
      rintro e w' ⟨rfl, rfl⟩
      go_wp2
      go_roundw
      case rel => exact ⟨1, by omega, rfl, by show _ = Value.int .i64 ((p + 2 : Nat) : Int); congr 1 <;> omega, HI.out.set hg0 rfl⟩
      case measure => simp [intOf]
    · rw [show ofs 1 = 2 from rfl, show ((p + 2 : Nat) : Int) = (p : Int) + 2 by omega, show (((1 : Nat) : Int)) = 1 from rfl]
      obtain ⟨cx0, cx1, cx2, cx3⟩ := c4 (show Ce wr w1.heap.size 64 #[.int .i64 (t : Int), .int .i64 0, .int .i64 0, .int .i64 0] from hI.r)
      have cf := hI.r.frozen 1
      have HI := Lib.hid hI
      clear hI
      go_wp2_with fail
      refine (D1.out wr).mono ?_
      rintro e w' ⟨rfl, rfl⟩
      go_wp2
      go_roundw
      case rel => exact ⟨2, by omega, rfl, by show _ = Value.int .i64 ((p + 4 : Nat) : Int); congr 1 <;> omega, HI.out.set hg0 rfl⟩
      case measure => simp [intOf]
    · rw [show ofs 2 = 4 from rfl, show ((p + 4 : Nat) : Int) = (p : Int) + 4 by omega, show (((2 : Nat) : Int)) = 2 from rfl]
      obtain ⟨cx0, cx1, cx2, cx3⟩ := c4 (show Ce wr w1.heap.size 64 #[.int .i64 (t : Int), .int .i64 (c : Int), .int .i64 0, .int .i64 0] from hI.r)
      have cf := hI.r.frozen 2
      have HI := Lib.hid hI
      clear hI
      go_wp2_with fail
      refine (D2.out wr).mono ?_
      rintro e w' ⟨rfl, rfl⟩
      go_wp2
      go_roundw
      case rel => exact ⟨3, by omega, rfl, by show _ = Value.int .i64 ((p + 8 : Nat) : Int); congr 1 <;> omega, HI.out.set hg0 rfl⟩
      case measure => simp [intOf]
    · rw [show ofs 3 = 8 from rfl, show ((p + 8 : Nat) : Int) = (p : Int) + 8 by omega, show (((3 : Nat) : Int)) = 3 from rfl]
      obtain ⟨cx0, cx1, cx2, cx3⟩ := c4 (show Ce wr w1.heap.size 64 #[.int .i64 (t : Int), .int .i64 (c : Int), .int .i64 (l : Int), .int .i64 0] from hI.r)
      have cf := hI.r.frozen 3
      have HI := Lib.hid hI
      clear hI
      go_wp2_with fail
      refine (D3.out wr).mono ?_
      rintro e w' ⟨rfl, rfl⟩
      go_wp2
      go_roundw
      case rel => exact ⟨4, by omega, rfl, by show _ = Value.int .i64 ((p + 10 : Nat) : Int); congr 1 <;> omega, HI.out.set hg0 rfl⟩
      case measure => simp [intOf]
    · rw [show ofs 4 = 10 from rfl, show ((p + 10 : Nat) : Int) = (p : Int) + 10 by omega, show (((4 : Nat) : Int)) = 4 from rfl]
      have hR : Ce wr w1.heap.size 64 #[.int .i64 (t : Int), .int .i64 (c : Int), .int .i64 (l : Int), .int .i64 (z : Int)] := hI.r
      obtain ⟨cx0, cx1, cx2, cx3⟩ := c4 hR
      have HI := Lib.hid hI
      clear hR
      go_wp2_with fail
      refine (HE.out _).mono ?_
      rintro e w' ⟨rfl, rfl⟩
      by_cases g1 : F = 0
      · subst g1
        clear hI
        have HU := Lib.hid (HI.out.recd #[.string n, .int .u16 (t : Int), .int .u16 (c : Int), .int .u32 (l : Int), .string X])
        have ux1 := HU.out.r.cell 1
        simp at ux1
        go_wp2_with fail
        refine (HH.out _).mono ?_
        rintro e w' ⟨rfl, rfl⟩
        clear cx0 cx1 cx2 cx3
        go_wp2_with fail
        refine (HRA.out _).mono ?_
        rintro e w' ⟨rfl, rfl⟩
        by_cases g2 : eA = 0
        · subst g2
          have hJ0 := Lib.hid (hAG.out rfl)
          have hg2 : Hid (w.heap.size < wr.heap.size) := Lib.hid HU.out.h
          obtain ⟨wo, hwo⟩ : ∃ wo, wo = wr := ⟨_, rfl⟩
          subst hwo
          have HU2 := Lib.hid HU.out
          clear ux1
          go_wp2
          go_loopw [24, 25, 27] (fun xv bv i wq => ∃ (k : Nat) (x : Bs) (b : Int), k ≤ N ∧ i = .int .i64 k ∧ xv = str x ∧ bv = .int .i64 b ∧ (0 ≤ b ∧ b ≤ (s.size : Int)) ∧ x.length ≤ 1000000 + 255 * k ∧ jr x (rdP s.data.toList (List.replicate (N - k) (-1) ++ [(B : Int)]) b) = (jd, jn, je) ∧ RgJ w wo.heap.size #[.string n, .int .u16 (t : Int), .int .u16 (c : Int), .int .u32 (l : Int), .string X] wq) (fun _ _ i _ => N - (intOf i).toNat)
          case atStart => exact ⟨0, xA, bA, by omega, rfl, rfl, rfl, hbb, by omega, hJ0.out, HU2.out⟩
          case round =>
            clear HU HU2 HI
            obtain ⟨k, x, b, hk, rfl, rfl, rfl, hb, hx, hj, hI⟩ := hrel
            by_cases hlt : k < N
            · have q3 : (k : Int) < (N : Int) := by omega
              rw [show N - k = (N - (k + 1)) + 1 by omega, List.replicate_succ, List.cons_append] at hj
              have CN := fun w => rname_any s hs' b (by omega) w
              have e2 : rd1 s.data.toList b (-1) = ((nmI s.data.toList b).1, ((nmI s.data.toList b).2.1 : Int), ((nmI s.data.toList b).2.2 : Int)) := if_pos rfl
              unfold nmV at CN
              have hml := nmI_len s.data.toList b
              have hmp := nmI_place_any s.data.toList b
              rw [← HSL.out] at hmp
              have hNB : Hid (((nmI s.data.toList b).2.2 : Int) ≠ 0 → je = ((nmI s.data.toList b).2.2 : Int)) := Lib.hid fun h => by
                rw [jr_bad (by rw [e2]; exact h), e2] at hj
                exact (congrArg (fun x => x.2.2) hj).symm
              have hNG : Hid (((nmI s.data.toList b).2.2 : Int) = 0 → jr (x ++ (nmI s.data.toList b).1) (rdP s.data.toList (List.replicate (N - (k + 1)) (-1) ++ [(B : Int)]) ((nmI s.data.toList b).2.1 : Int)) = (jd, jn, je)) := Lib.hid fun h => by
                rw [h] at e2
                rw [jr_go e2] at hj
                exact hj
              clear hj e2
              generalize (nmI s.data.toList b).1 = m at CN hNG hml
              generalize (nmI s.data.toList b).2.1 = nx at CN hNG hmp
              generalize (nmI s.data.toList b).2.2 = en at CN hNG hNB
              have HCN := Lib.hid CN
              have HIJ := Lib.hid hI
              clear CN hI
              by_cases g3 : en = 0
              · subst g3
                have HNG := Lib.hid (hNG.out rfl)
                have hadd : ∀ w, (Op.stringOp .add ⟨x.toArray⟩ ⟨m.toArray⟩).run Try.prog w = .ok (str (x ++ m)) w := fun w => by
                  rw [run_string_add_sum w _ _ (by show x.length + m.length ≤ _; omega), cat]
                clear hNG hNB
                go_wp2_with fail
                refine (HCN.out _).mono ?_
                rintro e w9 ⟨rfl, hb9⟩
                have HI9 := Lib.hid (HIJ.out.under hb9)
                clear hb9
                go_wp2
                go_roundw
                case rel => exact ⟨k + 1, x ++ m, nx, by omega, by go_num, rfl, rfl, by omega, by rw [List.length_append]; omega, HNG.out, HI9.out⟩
                case measure => simp [intOf]; omega
              · have q4 : ((en : Int) == 0) = false := by simp; omega
                have q4' : ((en : Int) != 0) = true := by simp; omega
                have hje : je = (en : Int) := hNB.out (by omega)
                have hrr : Hid (rs = (zeroR, 0, (en : Int))) := Lib.hid (by rw [HR.out, hje]; unfold gtW; rw [if_pos rfl, if_neg (by omega)])
                clear g3 hNG hNB hje
                go_wp2_with fail
                refine (HCN.out _).mono ?_
                rintro e w9 ⟨rfl, hb9⟩
                have hI9 := HIJ.out.under hb9
                clear hb9
                obtain ⟨ax0, ax1, ax2, ax3, ax4⟩ := c5 hI9.a
                have af0 := hI9.a.frozen 0
                have af1 := hI9.a.frozen 1
                have af2 := hI9.a.frozen 2
                have af3 := hI9.a.frozen 3
                have af4 := hI9.a.frozen 4
                have HZ := Lib.hid (set5_ce hI9.a (.string ⟨#[]⟩) (.int .u16 0) (.int .u16 0) (.int .u32 0) (.string ⟨#[]⟩))
                have HB := Lib.hid hI9.b
                clear hI9
                go_wp2
                refine bodyPost_ret (res5tt rfl rfl HZ.out) rfl ?_
                exact gp_zero hrr.out (set5_below HB.out (Nat.le_refl _) _ _ _ _ _)
            · have q3 : decide ((k : Int) < (N : Int)) = false := by simp; omega
              rw [show N - k = 0 by omega, List.replicate_zero, List.nil_append] at hj
              have CB := fun w => rraw_any s hs' b (B : Int) (by omega) (by omega) w
              have e2 : rd1 s.data.toList b (B : Int) = (piS s.data.toList b (B : Int), piP s.data.toList b (B : Int), piR s.data.toList b (B : Int)) := if_neg (by omega)
              unfold pcV at CB
              have hyl := piS_le s.data.toList b (B : Int)
              rw [← HSL.out] at hyl
              have hNB : Hid (piR s.data.toList b (B : Int) ≠ 0 → je = piR s.data.toList b (B : Int)) := Lib.hid fun h => by
                rw [jr_bad (by rw [e2]; exact h), e2] at hj
                exact (congrArg (fun x => x.2.2) hj).symm
              have hNG : Hid (piR s.data.toList b (B : Int) = 0 → (x ++ piS s.data.toList b (B : Int), piP s.data.toList b (B : Int), (0 : Int)) = (jd, jn, je)) := Lib.hid fun h => by
                rw [h] at e2
                rw [jr_go e2, jr_end] at hj
                exact hj
              clear hj e2
              generalize piS s.data.toList b (B : Int) = y at CB hNG hyl
              generalize piP s.data.toList b (B : Int) = nx at CB hNG
              generalize piR s.data.toList b (B : Int) = en at CB hNG hNB
              have HCB := Lib.hid CB
              have HIJ := Lib.hid hI
              clear CB hI
              by_cases g3 : en = 0
              · subst g3
                have hjj := hNG.out rfl
                have hjd : x ++ y = jd := congrArg (fun x => x.1) hjj
                have hjn : nx = jn := congrArg (fun x => x.2.1) hjj
                have hje : (0 : Int) = je := congrArg (fun x => x.2.2) hjj
                subst hjn hje
                clear hNG hNB hjj
                by_cases g4 : nx = P
                · subst g4
                  go_wp2_with fail
                  refine (HCB.out _).mono ?_
                  rintro e w' ⟨rfl, rfl⟩
                  have hadd : ∀ w, (Op.stringOp .add ⟨x.toArray⟩ ⟨y.toArray⟩).run Try.prog w = .ok (str jd) w := fun w => by
                    rw [run_string_add_sum w _ _ (by show x.length + y.length ≤ _; omega), cat, hjd]
                  have rx4 := HIJ.out.r.cell 4
                  have rf4 := HIJ.out.r.frozen 4
                  obtain ⟨rx0, rx1, rx2, rx3, _⟩ := c5 HIJ.out.r
                  simp at rx4
                  have HI9 := Lib.hid (HIJ.out.set (i := 4) (v := str jd) (cs' := #[.string n, .int .u16 (t : Int), .int .u16 (c : Int), .int .u32 (l : Int), str jd]) rfl)
                  clear hx hyl hxl hb hbb hlt hk hjd ht hc hl
                  go_wp2_with fail
                  refine (HV.out _).mono ?_
                  rintro e w8 ⟨rfl, hb8⟩
                  have hI8 := HI9.out.under hb8
                  obtain ⟨tx0, tx1, tx2, tx3, tx4⟩ := c5 hI8.r
                  clear hb8 rx0 rx1 rx2 rx3 rx4 rf4
                  by_cases g5 : ck = 0
                  · subst g5
                    obtain ⟨ax0, ax1, ax2, ax3, ax4⟩ := c5 hI8.a
                    have af0 := hI8.a.frozen 0
                    have af1 := hI8.a.frozen 1
                    have af2 := hI8.a.frozen 2
                    have af3 := hI8.a.frozen 3
                    have af4 := hI8.a.frozen 4
                    have HZ := Lib.hid (set5_ce hI8.a (.string n) (.int .u16 (t : Int)) (.int .u16 (c : Int)) (.int .u32 (l : Int)) (str jd))
                    have HB := Lib.hid hI8.b
                    have hrr : Hid (rs = (⟨n, t, c, l, ⟨jd.toArray⟩⟩, nx, 0)) := Lib.hid (by rw [HR.out]; unfold gtW; rw [if_pos rfl, if_pos rfl, if_pos rfl, if_pos rfl])
                    clear hI8
                    go_wp2
                    refine bodyPost_ret (res5tt rfl rfl HZ.out) rfl ?_
                    rw [hrr.out]
                    exact ⟨rfl, set5_below HB.out (Nat.le_refl _) _ _ _ _ _⟩
                  · have q4 : (ck == 0) = false := by simpa using g5
                    have q4' : (ck != 0) = true := by simpa using g5
                    have hrr : Hid (rs = (zeroR, 0, ck)) := Lib.hid (by rw [HR.out]; unfold gtW; rw [if_pos rfl, if_pos rfl, if_pos rfl, if_neg g5])
                    clear g5
                    obtain ⟨ax0, ax1, ax2, ax3, ax4⟩ := c5 hI8.a
                    have af0 := hI8.a.frozen 0
                    have af1 := hI8.a.frozen 1
                    have af2 := hI8.a.frozen 2
                    have af3 := hI8.a.frozen 3
                    have af4 := hI8.a.frozen 4
                    have HZ := Lib.hid (set5_ce hI8.a (.string ⟨#[]⟩) (.int .u16 0) (.int .u16 0) (.int .u32 0) (.string ⟨#[]⟩))
                    have HB := Lib.hid hI8.b
                    clear hI8
                    go_wp2
                    refine bodyPost_ret (res5tt rfl rfl HZ.out) rfl ?_
                    exact gp_zero hrr.out (set5_below HB.out (Nat.le_refl _) _ _ _ _ _)
                · have q4 : (nx == P) = false := by simpa using g4
                  have q4' : (nx != P) = true := by simpa using g4
                  have hrr : Hid (rs = (zeroR, 0, 10)) := Lib.hid (by rw [HR.out]; unfold gtW; rw [if_pos rfl, if_pos rfl, if_neg g4])
                  have hI8 := HIJ.out
                  clear g4
                  go_wp2_with fail
                  refine (HCB.out _).mono ?_
                  rintro e w' ⟨rfl, rfl⟩
                  obtain ⟨ax0, ax1, ax2, ax3, ax4⟩ := c5 hI8.a
                  have af0 := hI8.a.frozen 0
                  have af1 := hI8.a.frozen 1
                  have af2 := hI8.a.frozen 2
                  have af3 := hI8.a.frozen 3
                  have af4 := hI8.a.frozen 4
                  have HZ := Lib.hid (set5_ce hI8.a (.string ⟨#[]⟩) (.int .u16 0) (.int .u16 0) (.int .u32 0) (.string ⟨#[]⟩))
                  have HB := Lib.hid hI8.b
                  clear hI8
                  go_wp2
                  refine bodyPost_ret (res5tt rfl rfl HZ.out) rfl ?_
                  exact gp_zero hrr.out (set5_below HB.out (Nat.le_refl _) _ _ _ _ _)
              · have q4 : (en == 0) = false := by simpa using g3
                have q4' : (en != 0) = true := by simpa using g3
                have hje : je = en := hNB.out g3
                have hrr : Hid (rs = (zeroR, 0, en)) := Lib.hid (by rw [HR.out, hje]; unfold gtW; rw [if_pos rfl, if_neg g3])
                have hI8 := HIJ.out
                clear g3 hNG hNB hje
                go_wp2_with fail
                refine (HCB.out _).mono ?_
                rintro e w' ⟨rfl, rfl⟩
                obtain ⟨ax0, ax1, ax2, ax3, ax4⟩ := c5 hI8.a
                have af0 := hI8.a.frozen 0
                have af1 := hI8.a.frozen 1
                have af2 := hI8.a.frozen 2
                have af3 := hI8.a.frozen 3
                have af4 := hI8.a.frozen 4
                have HZ := Lib.hid (set5_ce hI8.a (.string ⟨#[]⟩) (.int .u16 0) (.int .u16 0) (.int .u32 0) (.string ⟨#[]⟩))
                have HB := Lib.hid hI8.b
                clear hI8
                go_wp2
                refine bodyPost_ret (res5tt rfl rfl HZ.out) rfl ?_
                exact gp_zero hrr.out (set5_below HB.out (Nat.le_refl _) _ _ _ _ _)
        · have q4 : (eA == 0) = false := by simpa using g2
          have q4' : (eA != 0) = true := by simpa using g2
          have hje : je = eA := hAB.out g2
          have hrr : Hid (rs = (zeroR, 0, eA)) := Lib.hid (by rw [HR.out, hje]; unfold gtW; rw [if_pos rfl, if_neg g2])
          have hI8 := HU.out
          clear g2 hje hAG hAB
          obtain ⟨ax0, ax1, ax2, ax3, ax4⟩ := c5 hI8.a
          have af0 := hI8.a.frozen 0
          have af1 := hI8.a.frozen 1
          have af2 := hI8.a.frozen 2
          have af3 := hI8.a.frozen 3
          have af4 := hI8.a.frozen 4
          have HZ := Lib.hid (set5_ce hI8.a (.string ⟨#[]⟩) (.int .u16 0) (.int .u16 0) (.int .u32 0) (.string ⟨#[]⟩))
          have HB := Lib.hid hI8.b
          clear hI8
          go_wp2
          refine bodyPost_ret (res5tt rfl rfl HZ.out) rfl ?_
          exact gp_zero hrr.out (set5_below HB.out (Nat.le_refl _) _ _ _ _ _)
      · have q1 : (F == 0) = false := by simpa using g1
        have q1' : (F != 0) = true := by simpa using g1
        have hrr : Hid (rs = (zeroR, 0, F)) := Lib.hid (by rw [HR.out]; unfold gtW; rw [if_neg g1])
        clear g1
        obtain ⟨ax0, ax1, ax2, ax3, ax4⟩ := c5 hI.a
        have af0 := hI.a.frozen 0
        have af1 := hI.a.frozen 1
        have af2 := hI.a.frozen 2
        have af3 := hI.a.frozen 3
        have af4 := hI.a.frozen 4
        have HZ := Lib.hid (set5_ce hI.a (.string ⟨#[]⟩) (.int .u16 0) (.int .u16 0) (.int .u32 0) (.string ⟨#[]⟩))
        have HB := Lib.hid hI.b
        clear hI
        go_wp2
        refine bodyPost_ret (res5tt rfl rfl HZ.out) rfl ?_
        exact gp_zero hrr.out (set5_below HB.out (Nat.le_refl _) _ _ _ _ _)

end Go.Proofs.Ytljfkjbagebncaa

/- RGetAny -/
namespace Go.Proofs.Ytljfkjbagebncaa
open Go.RowKit
theorem gtW_far {F e p P ck : Int} {r : Rc} (h : F ≠ 0) : gtW F e p P ck r = (zeroR, 0, F) := by unfold gtW; rw [if_neg h]
theorem gtW_err {F e p p' P ck ck' : Int} {r r' : Rc} (h : e ≠ 0) : gtW F e p P ck r = gtW F e p' P ck' r' := by
  unfold gtW; rw [if_neg h, if_neg h]
theorem rget_any (s : ByteArray) (hs : s.size ≤ 1000000) (a : Int) (ha : -9223372036854775808 ≤ a ∧ a ≤ 9223372036854775807) (w : World) :
    Calls Try.prog 77 #[.string s, .int .i64 a] w (GetPost w (gt s.data.toList a)) := by
  have hs' : s.size ≤ 140737488351232 := by omega
  have hsl := size_list s
  have C := fun w => rname_any s hs' a ha w
  unfold nmV at C
  by_cases he : (nmI s.data.toList a).2.2 = 0
  · have hpl := nmI_place_any s.data.toList a
    obtain ⟨p, hp⟩ : ∃ p, (nmI s.data.toList a).2.1 = p := ⟨_, rfl⟩
    rw [hp] at hpl
    rw [he, hp] at C
    by_cases hf : p + 10 ≤ s.data.toList.length
    · have h0 : hdE s.data.toList a = 0 := by
        unfold hdE; rw [if_pos he, hp]; exact (pi_cut (s := s.data.toList) (a := p) (z := 10) hf).2.2
      have hq : hdP s.data.toList a = (p : Int) + 10 := by
        have := (pi_cut (s := s.data.toList) (a := p) (z := 10) hf).2.1
        unfold hdP; rw [hp]; rw [show ((10 : Nat) : Int) = 10 from rfl] at this; rw [this]; omega
      obtain ⟨n1, n2, n3, n4⟩ := hd_numbers hp hf
      have e : gt s.data.toList a = _ := if_pos h0
      rw [e]
      have hr0 := hdR_ok s.data.toList a ⟨#[]⟩ (by decide)
      have hnl := nmI_len s.data.toList a
      have hzl : hdZ s.data.toList a < 65536 := gZ_lt _
      have num : ∀ (k z : Nat), p + k + z ≤ s.data.toList.length → z ≤ 4 → ∀ w : World, Calls Try.prog 37 #[.string s, .int .i64 ((p : Int) + (k : Int)), .int .i64 (z : Int)] w fun e w' => e = .returned (.tuple #[.int .i64 (numB (piS s.data.toList ((p + k : Nat) : Int) (z : Int)) : Int), .int .i64 ((p : Int) + (k : Int) + (z : Int)), .int .i64 0]) ∧ w = w' := fun k z h h4 w => by
        have := rnumber_any s hs' ((p + k : Nat) : Int) (z : Int) (by omega) (by omega) w
        obtain ⟨e1, e2, e3⟩ := pi_cut (s := s.data.toList) (a := p + k) (z := z) h
        unfold nuV at this
        rw [e2, e3] at this
        rw [show ((p + k : Nat) : Int) = (p : Int) + (k : Int) by omega, show ((p + k + z : Nat) : Int) = (p : Int) + (k : Int) + (z : Int) by omega] at this
        rw [show ((p + k : Nat) : Int) = (p : Int) + (k : Int) by omega]
        exact this
      have N0 := num 0 2 (by omega) (by omega)
      have N1 := num 2 2 (by omega) (by omega)
      have N2 := num 4 4 (by omega) (by omega)
      have N3 := num 8 2 (by omega) (by omega)
      rw [show ((0 : Nat) : Int) = 0 from rfl, Int.add_zero, Nat.add_zero] at N0
      rw [show ((2 : Nat) : Int) = 2 from rfl] at N0 N1 N3
      rw [show ((4 : Nat) : Int) = 4 from rfl] at N2
      rw [show ((8 : Nat) : Int) = 8 from rfl] at N3
      rw [show (p : Int) + 2 + 2 = (p : Int) + 4 by omega] at N1
      rw [show (p : Int) + 4 + 4 = (p : Int) + 8 by omega] at N2
      rw [show (p : Int) + 8 + 2 = (p : Int) + 10 by omega] at N3
      rw [← n1] at N0
      rw [← n2] at N1
      rw [← n3] at N2
      rw [← n4] at N3
      have E := fun w => rraw_any s hs' ((p : Int) + 10) (hdZ s.data.toList a : Int) (by omega) (by omega) w
      unfold pcV at E
      have hxl := piS_le s.data.toList ((p : Int) + 10) (hdZ s.data.toList a : Int)
      have hH := fun w => rhead_any (hdR s.data.toList a).t hr0.t w
      by_cases hn : named (hdR s.data.toList a).t = true
      · obtain ⟨J, hJ⟩ : ∃ J, jr [] (rdP s.data.toList (lx (hdR s.data.toList a).t) ((p : Int) + 10)) = J := ⟨_, rfl⟩
        have hJ2 := lx_lay (z := hdZ s.data.toList a) (s := s.data.toList) (a := (p : Int) + 10) hn (by omega) (by omega)
        rw [hJ, ← hq] at hJ2
        rw [hn] at hH
        have hjl : J.1.length ≤ 1000000000 := by
          rw [hJ2]; unfold jr
          have := (gtP_len s.data.toList a).2
          split
          · simp only [List.nil_append]; exact Nat.le_trans this (by omega)
          · simp
        obtain ⟨jd, jn, je⟩ := J
        have hr := hdR_ok s.data.toList a ⟨jd.toArray⟩ (by show jd.length ≤ _; simp only at hjl; omega)
        have V := fun w => rrcheck_any { hdR s.data.toList a with d := ⟨jd.toArray⟩ } hr (by show (nmI s.data.toList a).1.length ≤ _; omega) w
        have hA : nhA (hdR s.data.toList a).t ≤ 2 := by unfold nhA; split <;> omega
        have hN : nhN (hdR s.data.toList a).t ≤ 2 := by unfold nhN; split <;> (try split) <;> omega
        have hB : nhB (hdR s.data.toList a).t ≤ 20 := by unfold nhB; split <;> omega
        have K := rget_named s a ⟨(nmI s.data.toList a).1.toArray⟩ p _ _ _ _ (gT_lt _) (gC_lt _) (gL_lt _) _ _ _ C N0 N1 N2 N3 _ _ _ _ hA hN hB hs jd jn je hf hJ w E hH V
        refine K.mono fun e w' h => ?_
        have hgw : gtW (piR s.data.toList ((p : Int) + 10) (hdZ s.data.toList a : Int)) je jn (piP s.data.toList ((p : Int) + 10) (hdZ s.data.toList a : Int)) (rck { hdR s.data.toList a with d := ⟨jd.toArray⟩ }) { hdR s.data.toList a with d := ⟨jd.toArray⟩ } =
          gtW (piR s.data.toList (hdP s.data.toList a) (hdZ s.data.toList a : Int)) (gtP s.data.toList a).2.2 (gtP s.data.toList a).2.1 (piP s.data.toList (hdP s.data.toList a) (hdZ s.data.toList a : Int)) (rck (gtR s.data.toList a)) (gtR s.data.toList a) := by
          rw [hq]
          have hJ3 : (jd, jn, je) = jr [] (gtP s.data.toList a) := hJ2
          unfold jr at hJ3
          by_cases he2 : (gtP s.data.toList a).2.2 = 0
          · rw [if_pos he2, List.nil_append] at hJ3
            obtain ⟨rfl, rfl, rfl⟩ : jd = joinP (gtP s.data.toList a).1 ∧ jn = (gtP s.data.toList a).2.1 ∧ je = 0 := by
              injection hJ3 with h1 h2; injection h2 with h2 h3; exact ⟨h1, h2, h3⟩
            rw [he2]
          · rw [if_neg he2] at hJ3
            obtain ⟨rfl, rfl, rfl⟩ : jd = [] ∧ jn = 0 ∧ je = (gtP s.data.toList a).2.2 := by
              injection hJ3 with h1 h2; injection h2 with h2 h3; exact ⟨h1, h2, h3⟩
            exact gtW_err he2
        rw [← hgw]
        exact h
      · have hn' : named (hdR s.data.toList a).t = false := by simpa using hn
        have hXs : (⟨(piS s.data.toList ((p : Int) + 10) (hdZ s.data.toList a : Int)).toArray⟩ : ByteArray).size ≤ 140737488351232 := by show (piS s.data.toList ((p : Int) + 10) (hdZ s.data.toList a : Int)).length ≤ _; omega
        have hr := hdR_ok s.data.toList a _ hXs
        have V := fun w => rrcheck_any { hdR s.data.toList a with d := ⟨(piS s.data.toList ((p : Int) + 10) (hdZ s.data.toList a : Int)).toArray⟩ } hr (by show (nmI s.data.toList a).1.length ≤ _; omega) w
        have hH0 : ∀ w : World, Calls Try.prog 107 #[.int .u16 ((hdR s.data.toList a).t : Int)] w fun e w' => e = .returned (.tuple #[.int .i64 0, .int .i64 0, .int .i64 0, .bool false]) ∧ w = w' := fun w => by
          have := hH w
          unfold named at hn'
          simp only [decide_eq_false_iff_not, not_or] at hn'
          obtain ⟨k1, k2, k3, k4, k5⟩ := hn'
          have e1 : nhA (hdR s.data.toList a).t = 0 := by unfold nhA; rw [if_neg k4]
          have e2 : nhN (hdR s.data.toList a).t = 0 := by
            unfold nhN; rw [if_neg, if_neg k5]
            rintro (h | h | h | h)
            · exact k1 h
            · exact k2 h
            · exact k3 h
            · exact k4 h
          have e3 : nhB (hdR s.data.toList a).t = 0 := by unfold nhB; rw [if_neg k5]
          have e4 : named (hdR s.data.toList a).t = false := by simpa using hn
          rw [e1, e2, e3, e4] at this
          exact this
        have K := rget_plain s a ⟨(nmI s.data.toList a).1.toArray⟩ p _ _ _ _ (gT_lt _) (gC_lt _) (gL_lt _) _ _ _ C N0 N1 N2 N3 _ w E hH0 V
        refine K.mono fun e w' h => ?_
        have hgw : gtW (piR s.data.toList ((p : Int) + 10) (hdZ s.data.toList a : Int)) 0 (piP s.data.toList ((p : Int) + 10) (hdZ s.data.toList a : Int)) (piP s.data.toList ((p : Int) + 10) (hdZ s.data.toList a : Int)) (rck { hdR s.data.toList a with d := ⟨(piS s.data.toList ((p : Int) + 10) (hdZ s.data.toList a : Int)).toArray⟩ }) { hdR s.data.toList a with d := ⟨(piS s.data.toList ((p : Int) + 10) (hdZ s.data.toList a : Int)).toArray⟩ } =
          gtW (piR s.data.toList (hdP s.data.toList a) (hdZ s.data.toList a : Int)) (gtP s.data.toList a).2.2 (gtP s.data.toList a).2.1 (piP s.data.toList (hdP s.data.toList a) (hdZ s.data.toList a : Int)) (rck (gtR s.data.toList a)) (gtR s.data.toList a) := by
          have hG : gtP s.data.toList a = rdP s.data.toList [(hdZ s.data.toList a : Int)] ((p : Int) + 10) := by unfold gtP; rw [hq, lay_plain hn']
          rw [hq]
          have e1 : rd1 s.data.toList ((p : Int) + 10) (hdZ s.data.toList a : Int) = (piS s.data.toList ((p : Int) + 10) (hdZ s.data.toList a : Int), piP s.data.toList ((p : Int) + 10) (hdZ s.data.toList a : Int), piR s.data.toList ((p : Int) + 10) (hdZ s.data.toList a : Int)) := if_neg (show ¬ ((hdZ s.data.toList a : Nat) : Int) = -1 by omega)
          by_cases hF : piR s.data.toList ((p : Int) + 10) (hdZ s.data.toList a : Int) = 0
          · rw [rdP_one, e1] at hG
            simp only at hG
            rw [if_pos hF] at hG
            have e2 : (gtP s.data.toList a).2.2 = 0 := by rw [hG]
            have e3 : (gtP s.data.toList a).2.1 = piP s.data.toList ((p : Int) + 10) (hdZ s.data.toList a : Int) := by rw [hG]
            have e4 : joinP (gtP s.data.toList a).1 = piS s.data.toList ((p : Int) + 10) (hdZ s.data.toList a : Int) := by rw [hG]; simp [joinP]
            unfold gtR
            rw [e2, e3, e4]
          · rw [gtW_far hF, gtW_far hF]
        rw [← hgw]
        exact h
    · rw [hd_far he hp hf]
      exact rget_far s hs' a _ p hpl hf w C
  · have h0 : hdE s.data.toList a ≠ 0 := by unfold hdE; rw [if_neg he]; omega
    have e : gt s.data.toList a = _ := if_neg h0
    rw [e]
    have e2 : hdE s.data.toList a = ((nmI s.data.toList a).2.2 : Int) := by unfold hdE; rw [if_neg he]
    rw [e2]
    exact rget_noname s a _ _ _ he w C
end Go.Proofs.Ytljfkjbagebncaa
