/-
  What the document's Get answers, for every text and place; no older memory is changed.
-/
import Derived.Test.YtflpceaaelampaaRefGetMath
namespace Go.Proofs.Ytflpceaaelampaa
open Go.RowKit
/-- The four numbers, as they come one by one, and how far reading has come. -/
def ar (t c l z : Nat) : Nat → Array Value
  | 0 => #[.int .i64 0, .int .i64 0, .int .i64 0, .int .i64 0]
  | 1 => #[.int .i64 (t : Int), .int .i64 0, .int .i64 0, .int .i64 0]
  | 2 => #[.int .i64 (t : Int), .int .i64 (c : Int), .int .i64 0, .int .i64 0]
  | 3 => #[.int .i64 (t : Int), .int .i64 (c : Int), .int .i64 (l : Int), .int .i64 0]
  | _ => #[.int .i64 (t : Int), .int .i64 (c : Int), .int .i64 (l : Int), .int .i64 (z : Int)]
def ofs : Nat → Nat
  | 0 => 0
  | 1 => 2
  | 2 => 4
  | 3 => 8
  | _ => 10
theorem c4 {w : World} {n : Nat} {T : TypeId} {v0 v1 v2 v3 : Value} (h : Ce w n T #[v0, v1, v2, v3]) : w.cell? ⟨n, 0, none⟩ = some v0 ∧ w.cell? ⟨n, 1, none⟩ = some v1 ∧ w.cell? ⟨n, 2, none⟩ = some v2 ∧ w.cell? ⟨n, 3, none⟩ = some v3 := by
  refine ⟨?_, ?_, ?_, ?_⟩ <;> (rw [h.cell]; rfl)
/-- What the call knows: the result's block, the numbers' block. -/
structure RgI (w : World) (g : Nat) (cs : Array Value) (wr : World) : Prop where
  a : Ce wr w.heap.size 25 zc
  r : Ce wr g 87 cs
  b : Below w.heap.size w wr
theorem RgI.set {w wr : World} {g i : Nat} {cs cs' : Array Value} {v : Value} (h : RgI w g cs wr) (hg : w.heap.size < g) (e : cs.setIfInBounds i v = cs') : RgI w g cs' (wr.setCell ⟨g, i, none⟩ v) :=
  ⟨h.a.other (by omega) v, e ▸ h.r.set v, h.b.setCell (p := ⟨g, i, none⟩) (by show w.heap.size ≤ g; omega) v⟩
theorem RgI.under {w wr w' : World} {g : Nat} {cs : Array Value} (h : RgI w g cs wr) (hb : Below wr.heap.size wr w') : RgI w g cs w' :=
  ⟨h.a.below hb, h.r.below hb, h.b.trans (hb.mono h.b.size)⟩
theorem RgI.start {w w1 : World} (hb : Below (w.alloc (.cells zc 25)).heap.size (w.alloc (.cells zc 25)) w1) (cs : Array Value) : RgI w w1.heap.size cs (w1.alloc (.cells cs 87)) ∧ w.heap.size < w1.heap.size := by
  have h1 := (one_box w (.cells zc 25)).trans (hb.mono (one_box w (.cells zc 25)).size)
  have h2 := (Ce.new w 25 zc).below hb
  exact ⟨⟨h2.below (one_box _ _), Ce.new _ _ _, h1.alloc h1.size _⟩, h2.lt⟩
set_option maxRecDepth 100000 in
set_option maxHeartbeats 3200000 in
theorem rget_noname (s : ByteArray) (a : Int) (n : Bs) (p er : Nat) (he : er ≠ 0) (w : World)
    (C : ∀ w : World, Calls Try.prog 44 #[.string s, .int .i64 a] w fun e w' => e = .returned (.tuple #[str n, .int .i64 (p : Int), .int .i64 (er : Int)]) ∧ Below w.heap.size w w') :
    Calls Try.prog 21 #[.string s, .int .i64 a] w (GetPost w (zeroR, 0, (er : Int))) := by
  have HC := Lib.hid C
  have q : ((er : Int) == 0) = false := by simp; omega
  have q' : ((er : Int) != 0) = true := by simp; omega
  clear C he
  go_enter Try.func21, Try.ntmps21
  go_wp2_with fail
  refine (HC.out _).mono ?_
  rintro e w1 ⟨rfl, hb1⟩
  have bb1 := (one_box w (.cells zc 25)).trans (hb1.mono (one_box w (.cells zc 25)).size)
  have B0 := (Ce.new w 25 zc).below hb1
  clear hb1
  obtain ⟨ax0, ax1, ax2, ax3, ax4⟩ := c5 B0
  have af0 := B0.frozen 0
  have af1 := B0.frozen 1
  have af2 := B0.frozen 2
  have af3 := B0.frozen 3
  have af4 := B0.frozen 4
  have HZ := Lib.hid (set5_ce B0 (.string ⟨#[]⟩) (.int .u16 0) (.int .u16 0) (.int .u32 0) (.string ⟨#[]⟩))
  have HB := Lib.hid bb1
  clear B0 bb1
  go_wp2
  refine bodyPost_ret (res5tt rfl rfl HZ.out) rfl ?_
  exact gp_zero rfl (set5_below HB.out (Nat.le_refl _) _ _ _ _ _)
set_option maxRecDepth 100000 in
set_option maxHeartbeats 12800000 in
theorem rget_far (s : ByteArray) (hs : s.size ≤ 140737488351232) (a : Int) (n : Bs) (p : Nat) (hp : p ≤ s.data.toList.length) (hf : ¬ p + 10 ≤ s.data.toList.length) (w : World)
    (C : ∀ w : World, Calls Try.prog 44 #[.string s, .int .i64 a] w fun e w' => e = .returned (.tuple #[str n, .int .i64 (p : Int), .int .i64 0]) ∧ Below w.heap.size w w') :
    Calls Try.prog 21 #[.string s, .int .i64 a] w (GetPost w (zeroR, 0, 10)) := by
  have HC := Lib.hid C
  have hsl : s.data.toList.length ≤ 140737488351232 := by rw [← size_list]; exact hs
  clear C
  go_enter Try.func21, Try.ntmps21
  go_wp2_with fail
  refine (HC.out _).mono ?_
  rintro e w1 ⟨rfl, hb1⟩
  obtain ⟨hI0, hg0⟩ := RgI.start hb1 #[.int .i64 0, .int .i64 0, .int .i64 0, .int .i64 0]
  have HI0 := Lib.hid hI0
  clear hb1 hI0
  go_wp2
  go_loopw [8, 11] (fun x i wr => ∃ (k : Nat) (u0 u1 u2 u3 : Value), k ≤ 4 ∧ i = .int .i64 k ∧ x = .int .i64 ((p + ofs k : Nat) : Int) ∧ p + ofs k ≤ s.data.toList.length ∧ RgI w w1.heap.size #[u0, u1, u2, u3] wr) (fun _ i _ => 4 - (intOf i).toNat)
  case atStart => exact ⟨0, _, _, _, _, by omega, rfl, rfl, by show p + 0 ≤ _; omega, HI0.out⟩
  case round =>
    clear HI0
    obtain ⟨k, u0, u1, u2, u3, hk, rfl, rfl, hle, hI⟩ := hrel
    rcases (by omega : k = 0 ∨ k = 1 ∨ k = 2 ∨ k = 3 ∨ k = 4) with rfl | rfl | rfl | rfl | rfl
    · rw [show ofs 0 = 0 from rfl, show (((0 : Nat) : Int)) = 0 from rfl] at *
      rw [show ((p + 0 : Nat) : Int) = (p : Int) + 0 by omega]
      obtain ⟨cx0, cx1, cx2, cx3⟩ := c4 hI.r
      have cf := hI.r.frozen 0
      have C := rnumber_any s hs ((p + 0 : Nat) : Int) 2 (by omega) (by omega) wr
      by_cases hlt : p + 0 + 2 ≤ s.data.toList.length
      · obtain ⟨e1, e2, e3⟩ := pi_cut (s := s.data.toList) (a := p + 0) (z := 2) hlt
        have C2 : Calls Try.prog 45 #[.string s, .int .i64 ((p : Int) + 0), .int .i64 2] wr fun e w' => e = .returned (.tuple #[.int .i64 (numB (piS s.data.toList ((p + 0 : Nat) : Int) 2) : Int), .int .i64 ((p : Int) + 0 + 2), .int .i64 0]) ∧ wr = w' := by
          have : (nuV .i64 s.data.toList ((p + 0 : Nat) : Int) 2) = .tuple #[.int .i64 (numB (piS s.data.toList ((p + 0 : Nat) : Int) 2) : Int), .int .i64 ((p : Int) + 0 + 2), .int .i64 0] := by
            unfold nuV; rw [show (2 : Int) = ((2 : Nat) : Int) from rfl, e2, e3]; rfl
          rw [this] at C; exact C
        generalize numB (piS s.data.toList ((p + 0 : Nat) : Int) 2) = v at C2
        have HC2 := Lib.hid C2
        have HI := Lib.hid hI
        clear C C2 e1 e2 e3 hI
        go_wp2_with fail
        refine HC2.out.mono ?_
        rintro e w' ⟨rfl, rfl⟩
        go_wp2
        go_roundw
        case rel => exact ⟨1, _, u1, u2, u3, by omega, rfl, by show _ = Value.int .i64 ((p + 2 : Nat) : Int); congr 1 <;> omega, by show p + 2 ≤ _; omega, HI.out.set hg0 rfl⟩
        case measure => simp [intOf]
      · have C2 : Calls Try.prog 45 #[.string s, .int .i64 ((p : Int) + 0), .int .i64 2] wr fun e w' => e = .returned (.tuple #[.int .i64 (numB (piS s.data.toList ((p + 0 : Nat) : Int) 2) : Int), .int .i64 0, .int .i64 10]) ∧ wr = w' := by
          obtain ⟨e1, e2, e3⟩ := pi_no (s := s.data.toList) (a := ((p + 0 : Nat) : Int)) (n := 2) (piE_no (by omega))
          have : (nuV .i64 s.data.toList ((p + 0 : Nat) : Int) 2) = .tuple #[.int .i64 (numB (piS s.data.toList ((p + 0 : Nat) : Int) 2) : Int), .int .i64 0, .int .i64 10] := by
            unfold nuV; rw [e2, e3]
          rw [this] at C; exact C
        generalize numB (piS s.data.toList ((p + 0 : Nat) : Int) 2) = v at C2
        have HC2 := Lib.hid C2
        obtain ⟨ax0, ax1, ax2, ax3, ax4⟩ := c5 hI.a
        have af0 := hI.a.frozen 0
        have af1 := hI.a.frozen 1
        have af2 := hI.a.frozen 2
        have af3 := hI.a.frozen 3
        have af4 := hI.a.frozen 4
        have HZ := Lib.hid (set5_ce hI.a (.string ⟨#[]⟩) (.int .u16 0) (.int .u16 0) (.int .u32 0) (.string ⟨#[]⟩))
        have HB := Lib.hid hI.b
        clear C C2 hI
        go_wp2_with fail
        refine HC2.out.mono ?_
        rintro e w' ⟨rfl, rfl⟩
        go_wp2
        refine bodyPost_ret (res5tt rfl rfl HZ.out) rfl ?_
        exact gp_zero rfl (set5_below HB.out (Nat.le_refl _) _ _ _ _ _)
    · rw [show ofs 1 = 2 from rfl] at *
      rw [show ((p + 2 : Nat) : Int) = (p : Int) + 2 by omega, show (((1 : Nat) : Int)) = 1 from rfl]
      obtain ⟨cx0, cx1, cx2, cx3⟩ := c4 hI.r
      have cf := hI.r.frozen 1
      have C := rnumber_any s hs ((p + 2 : Nat) : Int) 2 (by omega) (by omega) wr
      by_cases hlt : p + 2 + 2 ≤ s.data.toList.length
      · obtain ⟨e1, e2, e3⟩ := pi_cut (s := s.data.toList) (a := p + 2) (z := 2) hlt
        have C2 : Calls Try.prog 45 #[.string s, .int .i64 ((p : Int) + 2), .int .i64 2] wr fun e w' => e = .returned (.tuple #[.int .i64 (numB (piS s.data.toList ((p + 2 : Nat) : Int) 2) : Int), .int .i64 ((p : Int) + 2 + 2), .int .i64 0]) ∧ wr = w' := by
          have : (nuV .i64 s.data.toList ((p + 2 : Nat) : Int) 2) = .tuple #[.int .i64 (numB (piS s.data.toList ((p + 2 : Nat) : Int) 2) : Int), .int .i64 ((p : Int) + 2 + 2), .int .i64 0] := by
            unfold nuV; rw [show (2 : Int) = ((2 : Nat) : Int) from rfl, e2, e3]; rfl
          rw [this] at C; exact C
        generalize numB (piS s.data.toList ((p + 2 : Nat) : Int) 2) = v at C2
        have HC2 := Lib.hid C2
        have HI := Lib.hid hI
        clear C C2 e1 e2 e3 hI
        go_wp2_with fail
        refine HC2.out.mono ?_
        rintro e w' ⟨rfl, rfl⟩
        go_wp2
        go_roundw
        case rel => exact ⟨2, u0, _, u2, u3, by omega, rfl, by show _ = Value.int .i64 ((p + 4 : Nat) : Int); congr 1 <;> omega, by show p + 4 ≤ _; omega, HI.out.set hg0 rfl⟩
        case measure => simp [intOf]
      · have C2 : Calls Try.prog 45 #[.string s, .int .i64 ((p : Int) + 2), .int .i64 2] wr fun e w' => e = .returned (.tuple #[.int .i64 (numB (piS s.data.toList ((p + 2 : Nat) : Int) 2) : Int), .int .i64 0, .int .i64 10]) ∧ wr = w' := by
          obtain ⟨e1, e2, e3⟩ := pi_no (s := s.data.toList) (a := ((p + 2 : Nat) : Int)) (n := 2) (piE_no (by omega))
          have : (nuV .i64 s.data.toList ((p + 2 : Nat) : Int) 2) = .tuple #[.int .i64 (numB (piS s.data.toList ((p + 2 : Nat) : Int) 2) : Int), .int .i64 0, .int .i64 10] := by
            unfold nuV; rw [e2, e3]
          rw [this] at C; exact C
        generalize numB (piS s.data.toList ((p + 2 : Nat) : Int) 2) = v at C2
        have HC2 := Lib.hid C2
        obtain ⟨ax0, ax1, ax2, ax3, ax4⟩ := c5 hI.a
        have af0 := hI.a.frozen 0
        have af1 := hI.a.frozen 1
        have af2 := hI.a.frozen 2
        have af3 := hI.a.frozen 3
        have af4 := hI.a.frozen 4
        have HZ := Lib.hid (set5_ce hI.a (.string ⟨#[]⟩) (.int .u16 0) (.int .u16 0) (.int .u32 0) (.string ⟨#[]⟩))
        have HB := Lib.hid hI.b
        clear C C2 hI
        go_wp2_with fail
        refine HC2.out.mono ?_
        rintro e w' ⟨rfl, rfl⟩
        go_wp2
        refine bodyPost_ret (res5tt rfl rfl HZ.out) rfl ?_
        exact gp_zero rfl (set5_below HB.out (Nat.le_refl _) _ _ _ _ _)
    · rw [show ofs 2 = 4 from rfl] at *
      rw [show ((p + 4 : Nat) : Int) = (p : Int) + 4 by omega, show (((2 : Nat) : Int)) = 2 from rfl]
      obtain ⟨cx0, cx1, cx2, cx3⟩ := c4 hI.r
      have cf := hI.r.frozen 2
      have C := rnumber_any s hs ((p + 4 : Nat) : Int) 4 (by omega) (by omega) wr
      by_cases hlt : p + 4 + 4 ≤ s.data.toList.length
      · obtain ⟨e1, e2, e3⟩ := pi_cut (s := s.data.toList) (a := p + 4) (z := 4) hlt
        have C2 : Calls Try.prog 45 #[.string s, .int .i64 ((p : Int) + 4), .int .i64 4] wr fun e w' => e = .returned (.tuple #[.int .i64 (numB (piS s.data.toList ((p + 4 : Nat) : Int) 4) : Int), .int .i64 ((p : Int) + 4 + 4), .int .i64 0]) ∧ wr = w' := by
          have : (nuV .i64 s.data.toList ((p + 4 : Nat) : Int) 4) = .tuple #[.int .i64 (numB (piS s.data.toList ((p + 4 : Nat) : Int) 4) : Int), .int .i64 ((p : Int) + 4 + 4), .int .i64 0] := by
            unfold nuV; rw [show (4 : Int) = ((4 : Nat) : Int) from rfl, e2, e3]; rfl
          rw [this] at C; exact C
        generalize numB (piS s.data.toList ((p + 4 : Nat) : Int) 4) = v at C2
        have HC2 := Lib.hid C2
        have HI := Lib.hid hI
        clear C C2 e1 e2 e3 hI
        go_wp2_with fail
        refine HC2.out.mono ?_
        rintro e w' ⟨rfl, rfl⟩
        go_wp2
        go_roundw
        case rel => exact ⟨3, u0, u1, _, u3, by omega, rfl, by show _ = Value.int .i64 ((p + 8 : Nat) : Int); congr 1 <;> omega, by show p + 8 ≤ _; omega, HI.out.set hg0 rfl⟩
        case measure => simp [intOf]
      · have C2 : Calls Try.prog 45 #[.string s, .int .i64 ((p : Int) + 4), .int .i64 4] wr fun e w' => e = .returned (.tuple #[.int .i64 (numB (piS s.data.toList ((p + 4 : Nat) : Int) 4) : Int), .int .i64 0, .int .i64 10]) ∧ wr = w' := by
          obtain ⟨e1, e2, e3⟩ := pi_no (s := s.data.toList) (a := ((p + 4 : Nat) : Int)) (n := 4) (piE_no (by omega))
          have : (nuV .i64 s.data.toList ((p + 4 : Nat) : Int) 4) = .tuple #[.int .i64 (numB (piS s.data.toList ((p + 4 : Nat) : Int) 4) : Int), .int .i64 0, .int .i64 10] := by
            unfold nuV; rw [e2, e3]
          rw [this] at C; exact C
        generalize numB (piS s.data.toList ((p + 4 : Nat) : Int) 4) = v at C2
        have HC2 := Lib.hid C2
        obtain ⟨ax0, ax1, ax2, ax3, ax4⟩ := c5 hI.a
        have af0 := hI.a.frozen 0
        have af1 := hI.a.frozen 1
        have af2 := hI.a.frozen 2
        have af3 := hI.a.frozen 3
        have af4 := hI.a.frozen 4
        have HZ := Lib.hid (set5_ce hI.a (.string ⟨#[]⟩) (.int .u16 0) (.int .u16 0) (.int .u32 0) (.string ⟨#[]⟩))
        have HB := Lib.hid hI.b
        clear C C2 hI
        go_wp2_with fail
        refine HC2.out.mono ?_
        rintro e w' ⟨rfl, rfl⟩
        go_wp2
        refine bodyPost_ret (res5tt rfl rfl HZ.out) rfl ?_
        exact gp_zero rfl (set5_below HB.out (Nat.le_refl _) _ _ _ _ _)
    · rw [show ofs 3 = 8 from rfl] at *
      rw [show ((p + 8 : Nat) : Int) = (p : Int) + 8 by omega, show (((3 : Nat) : Int)) = 3 from rfl]
      obtain ⟨cx0, cx1, cx2, cx3⟩ := c4 hI.r
      have cf := hI.r.frozen 3
      have C := rnumber_any s hs ((p + 8 : Nat) : Int) 2 (by omega) (by omega) wr
      by_cases hlt : p + 8 + 2 ≤ s.data.toList.length
      · exact absurd hlt hf
      · have C2 : Calls Try.prog 45 #[.string s, .int .i64 ((p : Int) + 8), .int .i64 2] wr fun e w' => e = .returned (.tuple #[.int .i64 (numB (piS s.data.toList ((p + 8 : Nat) : Int) 2) : Int), .int .i64 0, .int .i64 10]) ∧ wr = w' := by
          obtain ⟨e1, e2, e3⟩ := pi_no (s := s.data.toList) (a := ((p + 8 : Nat) : Int)) (n := 2) (piE_no (by omega))
          have : (nuV .i64 s.data.toList ((p + 8 : Nat) : Int) 2) = .tuple #[.int .i64 (numB (piS s.data.toList ((p + 8 : Nat) : Int) 2) : Int), .int .i64 0, .int .i64 10] := by
            unfold nuV; rw [e2, e3]
          rw [this] at C; exact C
        generalize numB (piS s.data.toList ((p + 8 : Nat) : Int) 2) = v at C2
        have HC2 := Lib.hid C2
        obtain ⟨ax0, ax1, ax2, ax3, ax4⟩ := c5 hI.a
        have af0 := hI.a.frozen 0
        have af1 := hI.a.frozen 1
        have af2 := hI.a.frozen 2
        have af3 := hI.a.frozen 3
        have af4 := hI.a.frozen 4
        have HZ := Lib.hid (set5_ce hI.a (.string ⟨#[]⟩) (.int .u16 0) (.int .u16 0) (.int .u32 0) (.string ⟨#[]⟩))
        have HB := Lib.hid hI.b
        clear C C2 hI
        go_wp2_with fail
        refine HC2.out.mono ?_
        rintro e w' ⟨rfl, rfl⟩
        go_wp2
        refine bodyPost_ret (res5tt rfl rfl HZ.out) rfl ?_
        exact gp_zero rfl (set5_below HB.out (Nat.le_refl _) _ _ _ _ _)
    · exact absurd hle hf
end Go.Proofs.Ytflpceaaelampaa
