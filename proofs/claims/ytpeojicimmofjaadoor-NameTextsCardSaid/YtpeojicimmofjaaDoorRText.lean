/-
  What the document's Text answers, for every text; no older memory is changed. It reads the table of powers of ten (strconv.Itoa).
-/
import Derived.Test.YtpeojicimmofjaaDoorRParseMath
import Derived.Test.YtpeojicimmofjaaDoorAwake
import Derived.Test.YtpeojicimmofjaaDoorShelf
import Derived.Lib.AppendIntMem
namespace Go.Proofs.YtpeojicimmofjaaDoor
open Go.RowKit
theorem name_eq {l : Bs} (h : chk l = 0) : l = enc (labs l) ++ [0] := by
  have h1 := split l
  rw [(chk_zero.1 h).1] at h1
  exact h1.symm
/-- The table of powers of ten reads as it was laid, whatever is done from block B on. -/
abbrev Tab (B : Nat) (w : World) : Prop := Lib.TabBelow Tryd.prog B w "internal/strconv.uint64pow10" .u64 Lib.pow10Tab
theorem Tab.on {B : Nat} {w w' : World} (h : Tab B w) (hb : Below B w w') : Tab B w' := fun w2 h2 => h w2 (hb.trans h2)
theorem below_grow (w : World) (k : Nat) (os : Array Obj) : Below w.heap.size w (Sort.grow (w.drewN k) os) := by
  refine ⟨rfl, rfl, rfl, ?_, fun i hi => ?_⟩
  · simp [Sort.grow]
  · simp [Sort.grow, Array.getElem?_append, hi]
theorem itoa_at (c : Nat) (hc : c < 256) (w : World) (htab : Lib.TabIs Tryd.prog w "internal/strconv.uint64pow10" .u64 Lib.pow10Tab) :
    Calls Tryd.prog 24 #[.int .i64 (1000 + (c : Int))] w fun e w' => e = .returned (str [49, UInt8.ofNat (48 + c / 100), UInt8.ofNat (48 + c / 10 % 10), UInt8.ofNat (48 + c % 10)]) ∧ Below w.heap.size w w' := by
  refine (Tryd.strconv_Itoa (1000 + (c : Int)) (by omega) (by omega) w htab).mono ?_
  rintro e w' ⟨rfl, k, os, rfl⟩
  exact ⟨by rw [itoa_byte c hc], below_grow w k os⟩
theorem byte_back (w : World) (c : UInt8) : (convert 35 9 (.slice (some ⟨w.heap.size, 0, none⟩) 1 1)).run Tryd.prog (w.alloc (.cells #[.int .u8 (c.toNat : Int)] 5)) = .ok (.string ⟨#[c]⟩) (w.alloc (.cells #[.int .u8 (c.toNat : Int)] 5)) :=
  run_convert_bytes_back (P := Tryd.prog) _ 35 9 5 ⟨w.heap.size, 0, none⟩ 1 [c] Tryd.underlying35 Tryd.underlying5 Tryd.underlying9 (fun j hj => by
    have hj0 : j = 0 := by simp at hj; omega
    subst hj0
    exact cell_one_new w (.int .u8 (c.toNat : Int)) 5 0 (.int .u8 (c.toNat : Int)) rfl)
theorem byte_back' (w : World) (c : UInt8) : (convert 35 9 (.slice (some ⟨w.heap.size, 0, none⟩) 1 1)).run Tryd.prog (w.alloc (.cells #[.int .u8 (c.toNat : Int)] 5)).drew = .ok (.string ⟨#[c]⟩) (w.alloc (.cells #[.int .u8 (c.toNat : Int)] 5)).drew :=
  run_convert_bytes_back (P := Tryd.prog) _ 35 9 5 ⟨w.heap.size, 0, none⟩ 1 [c] Tryd.underlying35 Tryd.underlying5 Tryd.underlying9 (fun j hj => by
    have hj0 : j = 0 := by simp at hj; omega
    subst hj0
    exact cell_one_new w (.int .u8 (c.toNat : Int)) 5 0 (.int .u8 (c.toNat : Int)) rfl)
theorem ret_strd {y : ByteArray} {l : Bs} (h : y.data.toList = l) : Ending.returned (.string y) = .returned (str l) := by rw [bytes_eq h]
set_option maxRecDepth 100000 in
set_option maxHeartbeats 6400000 in
theorem rtext_yes (s : ByteArray) (hs : s.size ≤ 1000000) (g : chk s.data.toList = 0) (w : World) (htab : Tab w.heap.size w) :
    Calls Tryd.prog 9 #[.string s] w fun e w' => e = .returned (str (txt s.data.toList)) ∧ Below w.heap.size w w' := by
  have HT := Lib.hid htab
  have HNM := Lib.hid (name_eq g)
  have HLN := Lib.hid (labs_len255 g)
  obtain ⟨A, hA⟩ : ∃ A, A = labs s.data.toList := ⟨_, rfl⟩
  have HOK : Hid (∀ x ∈ A, OkL x) := Lib.hid (by rw [hA]; exact labs_ok _)
  obtain ⟨n, hn⟩ : ∃ n, n = A.length := ⟨_, rfl⟩
  have hn2 : n ≤ 254 := by rw [hn, hA]; exact HLN.out
  have HTX : Hid (txt s.data.toList = if n = 0 then [46] else txtL A) := Lib.hid (by
    unfold txt
    rw [if_pos g]
    by_cases h : n = 0
    · rw [if_pos h, if_pos]
      have := HNM.out
      rw [← hA, show A = [] from List.length_eq_zero_iff.1 (by rw [← hn]; exact h)] at this
      exact this
    · rw [if_neg h, if_neg, hA]
      intro e
      apply h
      rw [hn, hA, e]
      decide)
  have HA := Lib.hid hA
  have HN := Lib.hid hn
  have G := Lib.hid g
  clear htab g hA hn
  go_enter Tryd.func9, Tryd.ntmps9
  go_wp2_with fail
  refine (rlabels_yes s hs G.out w).mono ?_
  rintro e w1 ⟨v, rfl, hown, hb1⟩
  rw [← HA.out] at hown
  obtain ⟨a, cap, rfl⟩ := row_slice hown
  rw [← HN.out] at hown ⊢
  have HO := Lib.hid hown
  have HB1 := Lib.hid hb1
  clear hown hb1
  by_cases h0 : n = 0
  · have E : Hid (txt s.data.toList = [46]) := Lib.hid (by rw [HTX.out, if_pos h0])
    have q0 : ((n : Int) == 0) = true := by simp [h0]
    clear h0
    go_wp2
    go_ret
    exact ⟨by rw [E.out]; rfl, HB1.out⟩
  · have E : Hid (txt s.data.toList = txtL A) := Lib.hid (by rw [HTX.out, if_neg h0])
    have q0 : ((n : Int) == 0) = false := by simp; omega
    go_wp2
    go_loopw [5, 6, 7, 8, 9] (fun t i _ _ _ wr => ∃ (k : Nat) (y : ByteArray), k ≤ n ∧ i = .int .i64 k ∧ t = .string y ∧ y.data.toList = txtL (A.take k) ∧ y.size ≤ 300 * k ∧ Below w1.heap.size w1 wr) (fun _ i _ _ _ _ => n - (intOf i).toNat)
    case atStart => exact ⟨0, ⟨#[]⟩, by omega, rfl, rfl, rfl, by decide, Below.refl _ _⟩
    case round =>
      obtain ⟨k, y, hk, rfl, rfl, hy, hys, hbr⟩ := hrel
      have HY := Lib.hid hy
      have HBR := Lib.hid hbr
      clear hy hbr
      by_cases hlt : k < n
      · have q1 : (k : Int) < (n : Int) := by omega
        obtain ⟨x, hx⟩ : ∃ x, A[k]? = some x := ⟨_, List.getElem?_eq_getElem (by rw [← HN.out]; exact hlt)⟩
        have hxo := HOK.out x (List.mem_of_getElem? hx)
        obtain ⟨xb, hxb⟩ : ∃ xb : ByteArray, xb = ⟨x.toArray⟩ := ⟨_, rfl⟩
        have hxd : xb.data.toList = x := by rw [hxb]
        have hxs : xb.size ≤ 63 := by rw [size_list, hxd]; exact hxo.2
        have HCELL : Hid (∃ g, a = some ⟨g, 0, none⟩ ∧ g < w1.heap.size ∧ w1.cell? ⟨g, k, none⟩ = some (.string xb)) := Lib.hid (by rw [hxb]; exact own_get HO.out hx)
        have HXD := Lib.hid hxd
        have HX := Lib.hid hx
        obtain ⟨ga, rfl, hga, hgc⟩ := HCELL.out
        have HGC := Lib.hid hgc
        clear hx hxo hxb hxd hgc
        go_wp2
        go_loopw [5, 7, 8, 9] (fun t i _ _ wr => ∃ (j : Nat) (z : ByteArray), j ≤ xb.size ∧ i = .int .i64 j ∧ t = .string z ∧ z.data.toList = txtL (A.take k) ++ txtX (x.take j) ∧ z.size ≤ 300 * k + 4 * j ∧ Below w1.heap.size w1 wr) (fun _ i _ _ _ => xb.size - (intOf i).toNat)
        case atStart => exact ⟨0, y, by omega, rfl, rfl, by rw [HY.out]; simp [txtX], by omega, HBR.out⟩
        case round =>
          obtain ⟨j, z, hj, rfl, rfl, hz, hzs, hbr⟩ := hrel
          have HZ := Lib.hid hz
          have HBR2 := Lib.hid hbr
          have hcell : wr.cell? ⟨ga, k, none⟩ = some (.string xb) := (hbr.cell (p := ⟨ga, k, none⟩) hga).trans HGC.out
          clear hz hbr
          by_cases hlj : j < xb.size
          · have q2 : (j : Int) < (xb.size : Int) := by omega
            obtain ⟨c, hc⟩ : ∃ c, c = xb[j] := ⟨_, rfl⟩
            have hct : xb[j].toNat = c.toNat := by rw [hc]
            have hcb := c.toNat_lt
            have hjl : j < x.length := by have := size_list xb; rw [HXD.out] at this; omega
            have hcx : x[j] = c := by rw [hc]; simp only [← HXD.out]; rfl
            have HZ2 : Hid (txtL (A.take k) ++ txtX (x.take (j + 1)) = z.data.toList ++ esc c) := Lib.hid (by rw [txtX_snoc x j hjl, hcx, ← List.append_assoc, HZ.out])
            clear hc hjl hcx
            obtain ⟨m, hm⟩ : ∃ m, m = c.toNat := ⟨_, rfl⟩
            rw [← hm] at hcb
            have HM := Lib.hid hm
            have hone := byte_back wr c
            have hone2 := byte_back' wr c
            have hct2 : xb[j].toNat = m := by rw [hct, hm]
            rw [← hm] at hone hone2
            clear hct hm
            have HW := Lib.hid (HB1.out.trans (HBR2.out.mono HB1.out.size))
            by_cases c1 : m = 46
            · have q5 : ((m : Int) == 46) = true := by simp [c1]
              have e1 : esc c = [92, c] := esc_two (by rw [← HM.out]; omega)
              have HZ4 : Hid ((z ++ (⟨#[92]⟩ : ByteArray) ++ (⟨#[c]⟩ : ByteArray)).data.toList = txtL (A.take k) ++ txtX (x.take (j + 1))) := Lib.hid (by
                rw [HZ2.out, e1, ByteArray.data_append, Array.toList_append, ByteArray.data_append, Array.toList_append, List.append_assoc]; rfl)
              have hadd : ∀ w, (Op.stringOp .add z ⟨#[92]⟩).run Tryd.prog w = .ok (.string (z ++ ⟨#[92]⟩)) w := fun w => run_string_add_sum w z _ (by show z.size + 1 ≤ _; omega)
              have hadd2 : ∀ w, (Op.stringOp .add (z ++ ⟨#[92]⟩) ⟨#[c]⟩).run Tryd.prog w = .ok (.string (z ++ ⟨#[92]⟩ ++ ⟨#[c]⟩)) w := fun w => run_string_add_sum w _ _ (by rw [ByteArray.size_append]; show z.size + 1 + 1 ≤ _; omega)
              clear c1 e1
              go_wp2
              go_roundw
              case rel => exact ⟨j + 1, _, by omega, by go_num, rfl, HZ4.out, by rw [ByteArray.size_append, ByteArray.size_append]; show z.size + 1 + 1 ≤ _; omega, HBR2.out.alloc HBR2.out.size _⟩
              case measure => simp [intOf]; omega
            · have q5 : ((m : Int) == 46) = false := by simp; omega
              by_cases c2 : m = 92
              · have q6 : ((m : Int) == 92) = true := by simp [c2]
                have e1 : esc c = [92, c] := esc_two (by rw [← HM.out]; omega)
                have HZ4 : Hid ((z ++ (⟨#[92]⟩ : ByteArray) ++ (⟨#[c]⟩ : ByteArray)).data.toList = txtL (A.take k) ++ txtX (x.take (j + 1))) := Lib.hid (by
                  rw [HZ2.out, e1, ByteArray.data_append, Array.toList_append, ByteArray.data_append, Array.toList_append, List.append_assoc]; rfl)
                have hadd : ∀ w, (Op.stringOp .add z ⟨#[92]⟩).run Tryd.prog w = .ok (.string (z ++ ⟨#[92]⟩)) w := fun w => run_string_add_sum w z _ (by show z.size + 1 ≤ _; omega)
                have hadd2 : ∀ w, (Op.stringOp .add (z ++ ⟨#[92]⟩) ⟨#[c]⟩).run Tryd.prog w = .ok (.string (z ++ ⟨#[92]⟩ ++ ⟨#[c]⟩)) w := fun w => run_string_add_sum w _ _ (by rw [ByteArray.size_append]; show z.size + 1 + 1 ≤ _; omega)
                clear c1 c2 e1
                go_wp2
                go_roundw
                case rel => exact ⟨j + 1, _, by omega, by go_num, rfl, HZ4.out, by rw [ByteArray.size_append, ByteArray.size_append]; show z.size + 1 + 1 ≤ _; omega, HBR2.out.alloc HBR2.out.size _⟩
                case measure => simp [intOf]; omega
              · have q6 : ((m : Int) == 92) = false := by simp; omega
                by_cases c3 : m < 33
                · have q7 : (m : Int) < 33 := by omega
                  have e1 : esc c = [92, UInt8.ofNat (48 + m / 100), UInt8.ofNat (48 + m / 10 % 10), UInt8.ofNat (48 + m % 10)] := by rw [HM.out]; exact esc_four (by rw [← HM.out]; omega) (by rw [← HM.out]; omega)
                  obtain ⟨D, hD⟩ : ∃ D : ByteArray, D = ⟨[49, UInt8.ofNat (48 + m / 100), UInt8.ofNat (48 + m / 10 % 10), UInt8.ofNat (48 + m % 10)].toArray⟩ := ⟨_, rfl⟩
                  obtain ⟨D3, hD3⟩ : ∃ D3 : ByteArray, D3 = ⟨[UInt8.ofNat (48 + m / 100), UInt8.ofNat (48 + m / 10 % 10), UInt8.ofNat (48 + m % 10)].toArray⟩ := ⟨_, rfl⟩
                  have HD : Hid (str [49, UInt8.ofNat (48 + m / 100), UInt8.ofNat (48 + m / 10 % 10), UInt8.ofNat (48 + m % 10)] = .string D) := Lib.hid (by rw [hD])
                  have hd3 : D3.size = 3 := by rw [hD3]; rfl
                  have HZ4 : Hid ((z ++ (⟨#[92]⟩ : ByteArray) ++ D3).data.toList = txtL (A.take k) ++ txtX (x.take (j + 1))) := Lib.hid (by
                    rw [HZ2.out, e1, ByteArray.data_append, Array.toList_append, ByteArray.data_append, Array.toList_append, List.append_assoc, hD3]; rfl)
                  have hsl : ∀ w, (Instr.slice 9 (.string D) (some (.int .i64 1)) none none).run Tryd.prog w = .ok (.string D3) w := fun w => by
                    have h := slice_from D 1 (by rw [hD]; exact Nat.le_add_left 1 3) w
                    rw [show ((1 : Nat) : Int) = 1 from rfl] at h
                    rw [h, hD, hD3]; rfl
                  have hadd : ∀ w, (Op.stringOp .add z ⟨#[92]⟩).run Tryd.prog w = .ok (.string (z ++ ⟨#[92]⟩)) w := fun w => run_string_add_sum w z _ (by show z.size + 1 ≤ _; omega)
                  have hadd2 : ∀ w, (Op.stringOp .add (z ++ ⟨#[92]⟩) D3).run Tryd.prog w = .ok (.string (z ++ ⟨#[92]⟩ ++ D3)) w := fun w => run_string_add_sum w _ _ (by rw [ByteArray.size_append]; show z.size + 1 + D3.size ≤ _; omega)
                  have HD3 := Lib.hid hd3
                  clear hD hD3 e1 hd3
                  clear c1 c2
                  go_wp2_with (go_at_call 24; refine (itoa_at m hcb _ (HT.out _ HW.out)).mono ?_; rintro e w2 ⟨rfl, hb2⟩; have HB2 := Lib.hid hb2; clear hb2; rw [HD.out])
                  go_roundw
                  case rel => exact ⟨j + 1, _, by omega, by go_num, rfl, HZ4.out, by rw [ByteArray.size_append, ByteArray.size_append, HD3.out]; show z.size + 1 + 3 ≤ _; omega, HBR2.out.trans (HB2.out.mono HBR2.out.size)⟩
                  case measure => simp [intOf]; omega
                · have q7 : decide ((m : Int) < 33) = false := by simp; omega
                  by_cases c4 : 126 < m
                  · have q8 : (126 : Int) < (m : Int) := by omega
                    have e1 : esc c = [92, UInt8.ofNat (48 + m / 100), UInt8.ofNat (48 + m / 10 % 10), UInt8.ofNat (48 + m % 10)] := by rw [HM.out]; exact esc_four (by rw [← HM.out]; omega) (by rw [← HM.out]; omega)
                    obtain ⟨D, hD⟩ : ∃ D : ByteArray, D = ⟨[49, UInt8.ofNat (48 + m / 100), UInt8.ofNat (48 + m / 10 % 10), UInt8.ofNat (48 + m % 10)].toArray⟩ := ⟨_, rfl⟩
                    obtain ⟨D3, hD3⟩ : ∃ D3 : ByteArray, D3 = ⟨[UInt8.ofNat (48 + m / 100), UInt8.ofNat (48 + m / 10 % 10), UInt8.ofNat (48 + m % 10)].toArray⟩ := ⟨_, rfl⟩
                    have HD : Hid (str [49, UInt8.ofNat (48 + m / 100), UInt8.ofNat (48 + m / 10 % 10), UInt8.ofNat (48 + m % 10)] = .string D) := Lib.hid (by rw [hD])
                    have hd3 : D3.size = 3 := by rw [hD3]; rfl
                    have HZ4 : Hid ((z ++ (⟨#[92]⟩ : ByteArray) ++ D3).data.toList = txtL (A.take k) ++ txtX (x.take (j + 1))) := Lib.hid (by
                      rw [HZ2.out, e1, ByteArray.data_append, Array.toList_append, ByteArray.data_append, Array.toList_append, List.append_assoc, hD3]; rfl)
                    have hsl : ∀ w, (Instr.slice 9 (.string D) (some (.int .i64 1)) none none).run Tryd.prog w = .ok (.string D3) w := fun w => by
                      have h := slice_from D 1 (by rw [hD]; exact Nat.le_add_left 1 3) w
                      rw [show ((1 : Nat) : Int) = 1 from rfl] at h
                      rw [h, hD, hD3]; rfl
                    have hadd : ∀ w, (Op.stringOp .add z ⟨#[92]⟩).run Tryd.prog w = .ok (.string (z ++ ⟨#[92]⟩)) w := fun w => run_string_add_sum w z _ (by show z.size + 1 ≤ _; omega)
                    have hadd2 : ∀ w, (Op.stringOp .add (z ++ ⟨#[92]⟩) D3).run Tryd.prog w = .ok (.string (z ++ ⟨#[92]⟩ ++ D3)) w := fun w => run_string_add_sum w _ _ (by rw [ByteArray.size_append]; show z.size + 1 + D3.size ≤ _; omega)
                    have HD3 := Lib.hid hd3
                    clear hD hD3 e1 hd3
                    clear c1 c2 c3
                    go_wp2_with (go_at_call 24; refine (itoa_at m hcb _ (HT.out _ HW.out)).mono ?_; rintro e w2 ⟨rfl, hb2⟩; have HB2 := Lib.hid hb2; clear hb2; rw [HD.out])
                    go_roundw
                    case rel => exact ⟨j + 1, _, by omega, by go_num, rfl, HZ4.out, by rw [ByteArray.size_append, ByteArray.size_append, HD3.out]; show z.size + 1 + 3 ≤ _; omega, HBR2.out.trans (HB2.out.mono HBR2.out.size)⟩
                    case measure => simp [intOf]; omega
                  · have q8 : decide ((126 : Int) < (m : Int)) = false := by simp; omega
                    have e1 : esc c = [c] := esc_one (by rw [← HM.out]; omega) (by rw [← HM.out]; omega)
                    have HZ4 : Hid ((z ++ (⟨#[c]⟩ : ByteArray)).data.toList = txtL (A.take k) ++ txtX (x.take (j + 1))) := Lib.hid (by
                      rw [HZ2.out, e1, ByteArray.data_append, Array.toList_append])
                    have hadd : ∀ w, (Op.stringOp .add z ⟨#[c]⟩).run Tryd.prog w = .ok (.string (z ++ ⟨#[c]⟩)) w := fun w => run_string_add_sum w z _ (by show z.size + 1 ≤ _; omega)
                    clear e1
                    go_wp2
                    go_roundw
                    case rel => exact ⟨j + 1, _, by omega, by go_num, rfl, HZ4.out, by rw [ByteArray.size_append]; show z.size + 1 ≤ _; omega, HBR2.out.alloc HBR2.out.size _⟩
                    case measure => simp [intOf]; omega
          · have hjx : j = xb.size := by omega
            have hadd : ∀ w, (Op.stringOp .add z ⟨#[46]⟩).run Tryd.prog w = .ok (.string (z ++ ⟨#[46]⟩)) w := fun w => run_string_add_sum w z _ (by show z.size + 1 ≤ _; omega)
            have HZ3 : Hid ((z ++ (⟨#[46]⟩ : ByteArray)).data.toList = txtL (A.take (k + 1))) := Lib.hid (by
              have hxt : x.take j = x := List.take_of_length_le (by rw [← HXD.out, ← size_list]; omega)
              rw [take_snoc HX.out, txtL_snoc, ByteArray.data_append, Array.toList_append, HZ.out, hxt])
            have q2 : decide ((j : Int) < (xb.size : Int)) = false := by simp; omega
            clear hjx
            go_wp2
            go_roundw
            case rel => exact ⟨k + 1, _, by omega, by go_num, rfl, HZ3.out, by rw [ByteArray.size_append]; show z.size + 1 ≤ _; omega, HBR2.out⟩
            case measure => simp [intOf]; omega
      · have q1 : decide ((k : Int) < (n : Int)) = false := by simp; omega
        have HR : Hid (y.data.toList = txt s.data.toList) := Lib.hid (by rw [HY.out, E.out, List.take_of_length_le (by rw [← HN.out]; omega)])
        go_wp2
        go_ret
        exact ⟨ret_strd HR.out, HB1.out.trans (HBR.out.mono HB1.out.size)⟩
theorem txt_none {l : Bs} (h : ¬ chk l = 0) : txt l = [] := by unfold txt; rw [if_neg h]
set_option maxRecDepth 100000 in
set_option maxHeartbeats 1600000 in
theorem rtext_no (s : ByteArray) (hs : s.size ≤ 1000000) (g : ¬ chk s.data.toList = 0) (w : World) :
    Calls Tryd.prog 9 #[.string s] w fun e w' => e = .returned (str (txt s.data.toList)) ∧ Below w.heap.size w w' := by
  have HE := Lib.hid (txt_none g)
  have q : (chk s.data.toList == 0) = false := by simpa using g
  have q' : (chk s.data.toList != 0) = true := by simpa using g
  have G := Lib.hid g
  clear g
  go_enter Tryd.func9, Tryd.ntmps9
  go_wp2_with fail
  refine (rlabels_no s hs G.out w).mono ?_
  rintro e w1 ⟨rfl, hb1⟩
  go_wp2
  go_ret
  exact ⟨by rw [HE.out]; rfl, hb1⟩
theorem rtext_any (s : ByteArray) (hs : s.size ≤ 1000000) (w : World) (htab : Tab w.heap.size w) :
    Calls Tryd.prog 9 #[.string s] w fun e w' => e = .returned (str (txt s.data.toList)) ∧ Below w.heap.size w w' := by
  by_cases h : chk s.data.toList = 0
  · exact rtext_yes s hs h w htab
  · exact rtext_no s hs h w
end Go.Proofs.YtpeojicimmofjaaDoor
