/-
  What the document's Get answers where numbers stand there: the types without names; no older memory is changed.
-/
import Derived.Test.YtflpceaaelampaaRefGet
namespace Go.Proofs.Ytflpceaaelampaa
open Go.RowKit
set_option maxRecDepth 100000 in
set_option maxHeartbeats 12800000 in
theorem rget_plain (s : ByteArray) (a : Int) (n : ByteArray) (p t c l z : Nat) (ht : t < 65536) (hc : c < 65536) (hl : l < 4294967296) (P F ck : Int)
    (C : ∀ w : World, Calls Try.prog 44 #[.string s, .int .i64 a] w fun e w' => e = .returned (.tuple #[.string n, .int .i64 (p : Int), .int .i64 0]) ∧ Below w.heap.size w w')
    (N0 : ∀ w : World, Calls Try.prog 45 #[.string s, .int .i64 (p : Int), .int .i64 2] w fun e w' => e = .returned (.tuple #[.int .i64 (t : Int), .int .i64 ((p : Int) + 2), .int .i64 0]) ∧ w = w')
    (N1 : ∀ w : World, Calls Try.prog 45 #[.string s, .int .i64 ((p : Int) + 2), .int .i64 2] w fun e w' => e = .returned (.tuple #[.int .i64 (c : Int), .int .i64 ((p : Int) + 4), .int .i64 0]) ∧ w = w')
    (N2 : ∀ w : World, Calls Try.prog 45 #[.string s, .int .i64 ((p : Int) + 4), .int .i64 4] w fun e w' => e = .returned (.tuple #[.int .i64 (l : Int), .int .i64 ((p : Int) + 8), .int .i64 0]) ∧ w = w')
    (N3 : ∀ w : World, Calls Try.prog 45 #[.string s, .int .i64 ((p : Int) + 8), .int .i64 2] w fun e w' => e = .returned (.tuple #[.int .i64 (z : Int), .int .i64 ((p : Int) + 10), .int .i64 0]) ∧ w = w')
    (d : ByteArray) (w : World)
    (E : ∀ w : World, Calls Try.prog 46 #[.string s, .int .i64 ((p : Int) + 10), .int .i64 (z : Int)] w fun e w' => e = .returned (.tuple #[.string d, .int .i64 P, .int .i64 F]) ∧ w = w')
    (H : ∀ w : World, Calls Try.prog 47 #[.int .u16 (t : Int)] w fun e w' => e = .returned (.tuple #[.int .i64 0, .int .i64 0, .int .i64 0, .bool false]) ∧ w = w')
    (V : ∀ w : World, Calls Try.prog 17 #[.agg #[.string n, .int .u16 (t : Int), .int .u16 (c : Int), .int .u32 (l : Int), .string d]] w fun e w' => e = .returned (.int .i64 ck) ∧ Below w.heap.size w w') :
    Calls Try.prog 21 #[.string s, .int .i64 a] w (GetPost w (gtW F 0 P P ck ⟨n, t, c, l, d⟩)) := by
  have HE := Lib.hid E
  have HH := Lib.hid H
  have HV := Lib.hid V
  clear E H V
  obtain ⟨rs, hrs⟩ : ∃ rs, rs = gtW F 0 P P ck ⟨n, t, c, l, d⟩ := ⟨_, rfl⟩
  rw [← hrs]
  have HR := Lib.hid hrs
  clear hrs
  have D0 := Lib.hid N0
  have D1 := Lib.hid N1
  have D2 := Lib.hid N2
  have D3 := Lib.hid N3
  have HC := Lib.hid C
  have hti : (t : Int) < 65536 := by omega
  have hci : (c : Int) < 65536 := by omega
  have hlli : (l : Int) < 4294967296 := by omega
  clear N0 N1 N2 N3 C
  go_enter Try.func21, Try.ntmps21
  go_wp2_with fail
  refine (HC.out _).mono ?_
  rintro e w1 ⟨rfl, hb1⟩
  obtain ⟨hI0, hg0⟩ := RgI.start hb1 #[.int .i64 0, .int .i64 0, .int .i64 0, .int .i64 0]
  have HI0 := Lib.hid hI0
  clear hb1 hI0
  go_wp2
  go_loopw [8, 11] (fun x i wr => ∃ k : Nat, k ≤ 4 ∧ i = .int .i64 k ∧ x = .int .i64 ((p + ofs k : Nat) : Int) ∧ RgI w w1.heap.size (ar t c l z k) wr) (fun _ i _ => 4 - (intOf i).toNat)
  case atStart => exact ⟨0, by omega, rfl, rfl, HI0.out⟩
  case round =>
    clear HI0
    obtain ⟨k, hk, rfl, rfl, hI⟩ := hrel
    rcases (by omega : k = 0 ∨ k = 1 ∨ k = 2 ∨ k = 3 ∨ k = 4) with rfl | rfl | rfl | rfl | rfl
    · rw [show ofs 0 = 0 from rfl, show ((p + 0 : Nat) : Int) = (p : Int) by omega, show (((0 : Nat) : Int)) = 0 from rfl]
      obtain ⟨cx0, cx1, cx2, cx3⟩ := c4 (show Ce wr w1.heap.size 87 #[.int .i64 0, .int .i64 0, .int .i64 0, .int .i64 0] from hI.r)
      have cf := hI.r.frozen 0
      have HI := Lib.hid hI
      clear hI
      go_wp2_with fail
      refine (D0.out wr).mono ?_
      rintro e w' ⟨rfl, rfl⟩
      go_wp2
      go_roundw
      case rel => exact ⟨1, by omega, rfl, by show _ = Value.int .i64 ((p + 2 : Nat) : Int); congr 1 <;> omega, HI.out.set hg0 rfl⟩
      case measure => simp [intOf]
    · rw [show ofs 1 = 2 from rfl, show ((p + 2 : Nat) : Int) = (p : Int) + 2 by omega, show (((1 : Nat) : Int)) = 1 from rfl]
      obtain ⟨cx0, cx1, cx2, cx3⟩ := c4 (show Ce wr w1.heap.size 87 #[.int .i64 (t : Int), .int .i64 0, .int .i64 0, .int .i64 0] from hI.r)
      have cf := hI.r.frozen 1
      have HI := Lib.hid hI
      clear hI
      go_wp2_with fail
      refine (D1.out wr).mono ?_
      rintro e w' ⟨rfl, rfl⟩
      go_wp2
      go_roundw
      case rel => exact ⟨2, by omega, rfl, by show _ = Value.int .i64 ((p + 4 : Nat) : Int); congr 1 <;> omega, HI.out.set hg0 rfl⟩
      case measure => simp [intOf]
    · rw [show ofs 2 = 4 from rfl, show ((p + 4 : Nat) : Int) = (p : Int) + 4 by omega, show (((2 : Nat) : Int)) = 2 from rfl]
      obtain ⟨cx0, cx1, cx2, cx3⟩ := c4 (show Ce wr w1.heap.size 87 #[.int .i64 (t : Int), .int .i64 (c : Int), .int .i64 0, .int .i64 0] from hI.r)
      have cf := hI.r.frozen 2
      have HI := Lib.hid hI
      clear hI
      go_wp2_with fail
      refine (D2.out wr).mono ?_
      rintro e w' ⟨rfl, rfl⟩
      go_wp2
      go_roundw
      case rel => exact ⟨3, by omega, rfl, by show _ = Value.int .i64 ((p + 8 : Nat) : Int); congr 1 <;> omega, HI.out.set hg0 rfl⟩
      case measure => simp [intOf]
    · rw [show ofs 3 = 8 from rfl, show ((p + 8 : Nat) : Int) = (p : Int) + 8 by omega, show (((3 : Nat) : Int)) = 3 from rfl]
      obtain ⟨cx0, cx1, cx2, cx3⟩ := c4 (show Ce wr w1.heap.size 87 #[.int .i64 (t : Int), .int .i64 (c : Int), .int .i64 (l : Int), .int .i64 0] from hI.r)
      have cf := hI.r.frozen 3
      have HI := Lib.hid hI
      clear hI
      go_wp2_with fail
      refine (D3.out wr).mono ?_
      rintro e w' ⟨rfl, rfl⟩
      go_wp2
      go_roundw
      case rel => exact ⟨4, by omega, rfl, by show _ = Value.int .i64 ((p + 10 : Nat) : Int); congr 1 <;> omega, HI.out.set hg0 rfl⟩
      case measure => simp [intOf]
    · rw [show ofs 4 = 10 from rfl, show ((p + 10 : Nat) : Int) = (p : Int) + 10 by omega, show (((4 : Nat) : Int)) = 4 from rfl]
      have hR : Ce wr w1.heap.size 87 #[.int .i64 (t : Int), .int .i64 (c : Int), .int .i64 (l : Int), .int .i64 (z : Int)] := hI.r
      obtain ⟨cx0, cx1, cx2, cx3⟩ := c4 hR
      have HI := Lib.hid hI
      clear hR
      go_wp2_with fail
      refine (HE.out _).mono ?_
      rintro e w' ⟨rfl, rfl⟩
      by_cases g1 : F = 0
      · subst g1
        clear hI
        have HK := Lib.hid (Ce.new wr 25 #[.string n, .int .u16 (t : Int), .int .u16 (c : Int), .int .u32 (l : Int), .string d])
        have HU := Lib.hid (HI.out.under (one_box wr (.cells #[.string n, .int .u16 (t : Int), .int .u16 (c : Int), .int .u32 (l : Int), .string d] 25)))
        go_wp2_with fail
        refine (HH.out _).mono ?_
        rintro e w' ⟨rfl, rfl⟩
        go_wp2_with fail
        refine (HV.out _).mono ?_
        rintro e w7 ⟨rfl, hb7⟩
        have hU := HU.out.under hb7
        have T7 := HK.out.below hb7
        obtain ⟨tx0, tx1, tx2, tx3, tx4⟩ := c5 T7
        clear hb7 cx0 cx1 cx2 cx3
        by_cases g4 : ck = 0
        · subst g4
          obtain ⟨ax0, ax1, ax2, ax3, ax4⟩ := c5 hU.a
          have af0 := hU.a.frozen 0
          have af1 := hU.a.frozen 1
          have af2 := hU.a.frozen 2
          have af3 := hU.a.frozen 3
          have af4 := hU.a.frozen 4
          have HZ := Lib.hid (set5_ce hU.a (.string n) (.int .u16 (t : Int)) (.int .u16 (c : Int)) (.int .u32 (l : Int)) (.string d))
          have HB := Lib.hid hU.b
          have hrr : Hid (rs = (⟨n, t, c, l, d⟩, P, 0)) := Lib.hid (by rw [HR.out]; unfold gtW; rw [if_pos rfl, if_pos rfl, if_pos rfl, if_pos rfl])
          clear hU T7
          go_wp2
          refine bodyPost_ret (res5tt rfl rfl HZ.out) rfl ?_
          rw [hrr.out]
          exact ⟨rfl, set5_below HB.out (Nat.le_refl _) _ _ _ _ _⟩
        · have q4 : (ck == 0) = false := by simpa using g4
          have q4' : (ck != 0) = true := by simpa using g4
          have hrr : Hid (rs = (zeroR, 0, ck)) := Lib.hid (by rw [HR.out]; unfold gtW; rw [if_pos rfl, if_pos rfl, if_pos rfl, if_neg g4])
          clear g4
          obtain ⟨ax0, ax1, ax2, ax3, ax4⟩ := c5 hU.a
          have af0 := hU.a.frozen 0
          have af1 := hU.a.frozen 1
          have af2 := hU.a.frozen 2
          have af3 := hU.a.frozen 3
          have af4 := hU.a.frozen 4
          have HZ := Lib.hid (set5_ce hU.a (.string ⟨#[]⟩) (.int .u16 0) (.int .u16 0) (.int .u32 0) (.string ⟨#[]⟩))
          have HB := Lib.hid hU.b
          clear hU T7
          go_wp2
          refine bodyPost_ret (res5tt rfl rfl HZ.out) rfl ?_
          exact gp_zero hrr.out (set5_below HB.out (Nat.le_refl _) _ _ _ _ _)
      · have q1 : (F == 0) = false := by simpa using g1
        have q1' : (F != 0) = true := by simpa using g1
        have hrr : Hid (rs = (zeroR, 0, F)) := Lib.hid (by rw [HR.out]; unfold gtW; rw [if_neg g1])
        clear g1
        obtain ⟨ax0, ax1, ax2, ax3, ax4⟩ := c5 hI.a
        have af0 := hI.a.frozen 0
        have af1 := hI.a.frozen 1
        have af2 := hI.a.frozen 2
        have af3 := hI.a.frozen 3
        have af4 := hI.a.frozen 4
        have HZ := Lib.hid (set5_ce hI.a (.string ⟨#[]⟩) (.int .u16 0) (.int .u16 0) (.int .u32 0) (.string ⟨#[]⟩))
        have HB := Lib.hid hI.b
        clear hI
        go_wp2
        refine bodyPost_ret (res5tt rfl rfl HZ.out) rfl ?_
        exact gp_zero hrr.out (set5_below HB.out (Nat.le_refl _) _ _ _ _ _)

end Go.Proofs.Ytflpceaaelampaa
