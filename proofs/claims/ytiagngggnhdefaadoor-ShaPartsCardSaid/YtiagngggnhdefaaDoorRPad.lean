/-
  What the document's Pad hands back, for any number: nothing, or the same bytes; no older memory is changed.
-/
import Derived.Test.YtiagngggnhdefaaDoorPadMath
namespace Go.Proofs.YtiagngggnhdefaaDoor
open Go.RowKit

theorem rpad_lo (n : Int) (w : World) (hn : n < 0) :
    Calls Tryd.prog 15 #[.int .i64 n] w fun e w' => e = .returned (.string ⟨#[]⟩) ∧ w = w' := by
  go_enter Tryd.func15, Tryd.ntmps15
  go_wp2
  go_ret
  exact ⟨rfl, rfl⟩
theorem rpad_hi (n : Int) (w : World) (hn : 1152921504606846976 < n) :
    Calls Tryd.prog 15 #[.int .i64 n] w fun e w' => e = .returned (.string ⟨#[]⟩) ∧ w = w' := by
  have h0 : ¬ n < 0 := by omega
  go_enter Tryd.func15, Tryd.ntmps15
  go_wp2
  go_ret
  exact ⟨rfl, rfl⟩
def lenOf : Value → Nat | .slice _ n _ => n | _ => 0
def bcells (l : List UInt8) : List Value := l.map fun b => .int .u8 (b.toNat : Int)
theorem bcells_length (l : List UInt8) : (bcells l).length = l.length := by simp [bcells]

theorem below_kept {W w w' : World} {g n cap : Nat} {xs : List Value} (h : Below W.heap.size W w) (hown : w.ownsRow W.heap.size 5 1 (.slice (some ⟨g, 0, none⟩) n cap) n xs)
    (hg : w.grownBy w' (Value.slice (some ⟨g, 0, none⟩) n cap).ownBlock) : Below W.heap.size W w' :=
  h.grown hg h.size (fun k hk => (hown.lt k hk).1)
/-- 'append(b, x)' of one byte to a row of the call's own: the world behind it is a letter. -/
theorem wpList_app_u8 (W wr : World) {ops : Array Oper} {rest : List Oper} {o : Oper} {a : Act} {Q : Exit → Act → World → Prop} (hgd : o.guard = none) (s x : Operand)
    (ho : o.op = .call { callee := .builtin .append, args := #[s, x], argTypes := #[49, 49] }) (g n cap : Nat) (l : List UInt8) (b : UInt8) (v : Int) (hv : v = (b.toNat : Int))
    (hs : a.eval s = .slice (some ⟨g, 0, none⟩) n cap) (hown : wr.ownsRow W.heap.size 5 1 (.slice (some ⟨g, 0, none⟩) n cap) n (bcells l)) (hb : Below W.heap.size W wr)
    (hx : a.eval x = .slice (some ⟨wr.heap.size, 0, none⟩) 1 1) (hn : n ≤ 1000000)
    (h : ∀ g' cap' w', w'.ownsRow W.heap.size 5 1 (.slice (some ⟨g', 0, none⟩) (n + 1) cap') (n + 1) (bcells (l ++ [b])) → Below W.heap.size W w' → wpList Tryd.prog ops Q rest (a.put o.dst (.slice (some ⟨g', 0, none⟩) (n + 1) cap')) w') :
    wpList Tryd.prog ops Q (o :: rest) a (wr.alloc (.cells #[.int .u8 v] 5)) := by
  subst hv
  obtain ⟨i0, hi, hz0, hz1, hz2⟩ := info_parts info5
  refine wpList_append_own _ hgd s x 49 ho W.heap.size 5 i0 (.int .u8 0) 1 1 und49 hi hz0 hz1 hz2 rfl (by decide) _ n (bcells l) hs (hown.alloc _) ⟨wr.heap.size, 0, none⟩ 1 1 [.int .u8 (b.toNat : Int)] hx rfl ?_ ?_ ?_ ?_ ?_ ?_
  · intro j u hj
    match j, hj with
    | 0, hj =>
      simp at hj; subst hj
      rw [Addr.add_mid]
      simp
  · intro u hu; simp at hu; subst hu; rfl
  · unfold maxLen; omega
  · omega
  · have := hb.size; simp; omega
  · intro v' w' hown' hgrow hnil
    have hc : bcells l ++ [.int .u8 (b.toNat : Int)] = bcells (l ++ [b]) := by simp [bcells]
    rw [hc] at hown'
    have hb' := below_kept (hb.alloc (by have := hb.size; omega) (.cells #[.int .u8 (b.toNat : Int)] 5)) (hown.alloc _) hgrow
    obtain ⟨hl1, h1 | ⟨g', cap', cur, rfl, r⟩⟩ := hown'
    · omega
    · exact h g' cap' w' ⟨hl1, .inr ⟨g', cap', cur, rfl, r⟩⟩ hb'

theorem ref_byte (N k : Nat) (hN : N ≤ 1152921504606846976) (hk : k < 8) : wrap64 ((N : Int) * 8) / 2 ^ (8 * (7 - k)) % 256 = ((lenByte N k).toNat : Int) := by
  rw [lenByte_val]
  by_cases h : N = 1152921504606846976
  · subst h
    match k, hk with
    | 0, _ => decide +kernel
    | 1, _ => decide +kernel
    | 2, _ => decide +kernel
    | 3, _ => decide +kernel
    | 4, _ => decide +kernel
    | 5, _ => decide +kernel
    | 6, _ => decide +kernel
    | 7, _ => decide +kernel
  · rw [IntWalk.wrap64_in _ (by omega), Int.mul_comm]

set_option maxHeartbeats 1600000 in
theorem rpad_mid (N : Nat) (w : World) (hn : N ≤ 1152921504606846976) :
    Calls Tryd.prog 15 #[.int .i64 N] w fun e w' => e = .returned (str (padL N)) ∧ Below w.heap.size w w' := by
  have h2 : ¬ (1152921504606846976 < (N : Int)) := by omega
  have hd : decide ((N : Int) < 0) = false := by simp
  obtain ⟨Z, hZ⟩ : ∃ Z, Z = padZ N := ⟨_, rfl⟩
  have hz : Z < 64 := by rw [hZ]; exact padZ_lt N
  have HZ := Lib.hid hZ
  clear hZ
  go_enter Tryd.func15, Tryd.ntmps15
  go_wp2
  have hown0 : (w.alloc (.cells #[.int .u8 128] 5)).ownsRow w.heap.size 5 1 (.slice (some ⟨w.heap.size, 0, none⟩) 1 1) 1 (bcells [0x80]) := World.ownsRow_lit w _ 1 (Nat.le_refl _) (by decide) rfl
  have hb0 : Below w.heap.size w (w.alloc (.cells #[.int .u8 128] 5)) := (Below.refl _ _).alloc (Nat.le_refl _) _
  obtain ⟨w1, hw1⟩ : ∃ w1, w1 = w.alloc (.cells #[.int .u8 128] 5) := ⟨_, rfl⟩
  rw [← hw1] at hown0 hb0 ⊢
  have HO := Lib.hid hown0
  clear hown0 hw1
  go_loopw [3] (fun v wr => ∃ m g cap : Nat, m ≤ Z ∧ v = .slice (some ⟨g, 0, none⟩) (m + 1) cap ∧ wr.ownsRow w.heap.size 5 1 v (m + 1) (bcells (0x80 :: List.replicate m 0)) ∧ Below w.heap.size w wr) (fun v _ => 100 - lenOf v)
  case atStart => exact ⟨0, _, _, by omega, rfl, HO.out, hb0⟩
  case round =>
    obtain ⟨m, g, cap, hm, rfl, hown, hbr⟩ := hrel
    have HOW := Lib.hid hown
    clear hown
    by_cases hlt : m < Z
    · have hne : ((N : Int) % 64 + ((m : Int) + 1) + 8) % 64 ≠ 0 := by have := HZ.out; unfold padZ at this; omega
      go_wp2_with (at_builtin; refine wpList_app_u8 w wr rfl (.tmp 20) (.tmp 21) rfl g (m + 1) cap (0x80 :: List.replicate m 0) 0 0 rfl rfl HOW.out hbr rfl (by omega) ?_; intro g2 cap2 w2 hown2 hb2)
      rw [show (0x80 :: List.replicate m (0 : UInt8)) ++ [0] = 0x80 :: List.replicate (m + 1) 0 by simp [List.replicate_succ']] at hown2
      go_roundw
      case rel => exact ⟨m + 1, g2, cap2, by omega, rfl, hown2, hb2⟩
      case measure => simp [lenOf]; omega
    · obtain rfl : m = Z := by omega
      have heq : ((N : Int) % 64 + ((m : Int) + 1) + 8) % 64 = 0 := by have := HZ.out; unfold padZ at this; omega
      have heqb : (((N : Int) % 64 + ((m : Int) + 1) + 8) % 64 != 0) = false := by rw [heq]; rfl
      clear heq hlt hm
      go_wp2
      clear heqb
      obtain ⟨wo, hwo⟩ : ∃ wo : World, wo = wr := ⟨_, rfl⟩
      rw [← hwo] at HOW hbr ⊢
      have hl0 : (0x80 :: List.replicate m (0 : UInt8)) = 0x80 :: List.replicate m 0 ++ lenB N 0 := by simp [lenB]
      have HOW0 := HOW.out
      rw [hl0] at HOW0
      have HOWq := Lib.hid HOW0
      clear hwo hl0 HOW0 HOW
      go_loopw [3, 4] (fun v i wr => ∃ k g cap : Nat, k ≤ 8 ∧ i = .int .i64 (7 - k) ∧ v = .slice (some ⟨g, 0, none⟩) (m + 1 + k) cap ∧ wr.ownsRow w.heap.size 5 1 v (m + 1 + k) (bcells (0x80 :: List.replicate m 0 ++ lenB N k)) ∧ Below w.heap.size w wr) (fun _ i _ => (1 + intOf i).toNat)
      case atStart => exact ⟨0, _, _, by omega, rfl, rfl, HOWq.out, hbr⟩
      case round =>
        obtain ⟨k, g1, cap1, hk, rfl, rfl, hown, hbq⟩ := hrel
        have HQ := Lib.hid hown
        clear hown
        by_cases hlt : k < 8
        · go_wp2_with (at_builtin; refine wpList_app_u8 w wr rfl (.tmp 27) (.tmp 35) rfl g1 (m + 1 + k) cap1 (0x80 :: List.replicate m 0 ++ lenB N k) (lenByte N k) _ (ref_byte N k hn hlt) rfl HQ.out hbq rfl (by omega) ?_; intro g2 cap2 w2 hown2 hb2)
          have hl2 : (0x80 :: List.replicate m (0 : UInt8) ++ lenB N k) ++ [lenByte N k] = 0x80 :: List.replicate m 0 ++ lenB N (k + 1) := by simp [lenB, List.range_succ]
          rw [hl2] at hown2
          go_roundw
          case rel => exact ⟨k + 1, g2, cap2, by omega, by go_num, by first | rfl | (congr 1), hown2, hb2⟩
          case measure => simp [intOf]; omega
        · have hk8 : k = 8 := by omega
          have hown := HQ.out
          rw [hk8] at hown
          have hpl : (0x80 :: List.replicate m (0 : UInt8) ++ lenB N 8) = padL N := by rw [HZ.out]; rfl
          have hll : m + 1 + 8 = (padL N).length := by rw [padL_length, ← HZ.out]
          rw [hpl, hll] at hown
          have hcv : (convert 49 9 (.slice (some ⟨g1, 0, none⟩) (m + 1 + k) cap1)).run Tryd.prog wr = .ok (str (padL N)) wr := by
            rw [hk8, hll]
            exact run_convert_bytes_back (P := Tryd.prog) wr 49 9 5 ⟨g1, 0, none⟩ cap1 (padL N) und49 und5 und9 (fun j hj => by
              rw [Addr.add_mid, Nat.zero_add, hown.cellAt j (by omega)]
              simp [bcells, hj])
          clear hown hpl hll hk8
          go_wp2
          go_ret
          exact ⟨rfl, hbq⟩
end Go.Proofs.YtiagngggnhdefaaDoor
