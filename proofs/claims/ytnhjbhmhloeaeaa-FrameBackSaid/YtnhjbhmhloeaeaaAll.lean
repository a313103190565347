/-
  What All and Put of the package frame answer; no older memory is changed.
-/
import Derived.Test.YtnhjbhmhloeaeaaRef
namespace Go.Proofs.Ytnhjbhmhloeaeaa
open Go.RowKit
theorem info9 : (Try.prog.info? 9).map (fun i => (i.zero, i.size, i.bytes)) = some (some (.string ⟨#[]⟩), 1, 16) := by kernel_rfl
/-- A slice that reads as these texts. -/
def Ls (w : World) (v : Value) (ls : List Bs) : Prop :=
  (v = .slice none 0 0 ∧ ls = []) ∨ ∃ b off cap, v = .slice (some ⟨b, off, none⟩) ls.length cap ∧ b < w.heap.size ∧ ∀ j x, ls[j]? = some x → w.cell? ⟨b, off + j, none⟩ = some (str x)
theorem Ls.below {w w' : World} {v : Value} {ls : List Bs} (h : Ls w v ls) (hb : Below w.heap.size w w') : Ls w' v ls := by
  rcases h with h | ⟨b, off, cap, rfl, hb1, hc⟩
  · exact .inl h
  · exact .inr ⟨b, off, cap, rfl, Nat.lt_of_lt_of_le hb1 hb.size, fun j x hj => (hb.cell (p := ⟨b, off + j, none⟩) hb1).trans (hc j x hj)⟩
theorem Ls.shape {w : World} {v : Value} {ls : List Bs} (h : Ls w v ls) : ∃ a cap, v = .slice a ls.length cap := by
  rcases h with ⟨rfl, rfl⟩ | ⟨b, off, cap, rfl, _⟩
  · exact ⟨none, 0, rfl⟩
  · exact ⟨_, cap, rfl⟩
theorem Ls.at {w : World} {a : Option Addr} {n cap : Nat} {ls : List Bs} (h : Ls w (.slice a n cap) ls) (k : Nat) (hk : k < ls.length) : ∃ b off, a = some ⟨b, off, none⟩ ∧ b < w.heap.size ∧ w.cell? ⟨b, off + k, none⟩ = some (str ls[k]) := by
  rcases h with ⟨_, e⟩ | ⟨b, off, cap', e, hb, hc⟩
  · subst e; simp at hk
  · cases e; exact ⟨b, off, rfl, hb, hc k _ (List.getElem?_eq_getElem hk)⟩
/-- A slice of bytes that the call owns. -/
def Own5 (w : World) (base : Nat) (v : Value) (l : Bs) : Prop := w.ownsRow base 5 1 v l.length (ub l)
theorem own5_nil (w : World) (B : Nat) : Own5 w B (.slice none 0 0) [] := World.ownsRow_nil _ _ _ _
theorem Own5.shape {w : World} {B : Nat} {v : Value} {l : Bs} (h : Own5 w B v l) : ∃ a cap, v = .slice a l.length cap := by
  rcases h.2 with ⟨rfl, h0⟩ | ⟨g, cap, cur, rfl, _⟩
  · exact ⟨none, 0, by rw [h0]⟩
  · exact ⟨_, cap, rfl⟩
/-- What one more piece leaves. -/
theorem own5_next {w wr wa w1 : World} {v v' : Value} {B : Nat} {l m : Bs} (hown : Own5 wr B v l) (hBw : w.heap.size ≤ B) (hb : Below w.heap.size w wa)
    (hown' : w1.ownsRow B 5 1 v' (l.length + m.length) (ub l ++ ub m)) (hg : wa.grownBy w1 v.ownBlock) : Own5 w1 B v' (l ++ m) ∧ Below w.heap.size w w1 := by
  constructor
  · unfold Own5
    rw [List.length_append, ub_append]
    exact hown'
  · refine hb.trans ⟨hg.os, hg.tape, hg.output, hg.size, fun i hi => hg.block i (Nat.lt_of_lt_of_le hi hb.size) ?_⟩
    intro e
    have := (World.ownsRow.lt hown i e.symm).1
    omega
theorem own5_back {w : World} {B : Nat} {v : Value} {l : Bs} (h : Own5 w B v l) : (convert 28 9 v).run Try.prog w = .ok (str l) w := by
  have hc := @World.ownsRow.cells w B 5 1 _ l.length _ h
  rcases h.2 with ⟨rfl, h0⟩ | ⟨g, cap', cur, rfl, hb, hg, _⟩
  · have hl : l = [] := List.length_eq_zero_iff.1 h0
    subst hl
    have := run_convert_bytes_string (P := Try.prog) w 28 9 5 none 0 0 Try.underlying28 Try.underlying5 Try.underlying9
    rw [this]
    simp [Conv.bytesToString]
    rfl
  · exact run_convert_bytes_back (P := Try.prog) w 28 9 5 ⟨g, 0, none⟩ _ l Try.underlying28 Try.underlying5 Try.underlying9 (fun j hj => hc (g := g) rfl j _ (by simp [hj]))
/-- What All answers. -/
def fits (ls : List Bs) : Bool := ls.all (·.length ≤ 65535)
def alS (ls : List Bs) : Bs := if fits ls then frs ls else []
def alE (ls : List Bs) : Int := if fits ls then 0 else 11
theorem al_yes {ls : List Bs} (h : fits ls = true) : alS ls = frs ls ∧ alE ls = 0 := by unfold alS alE; rw [h]; exact ⟨rfl, rfl⟩
theorem al_no {ls : List Bs} (h : fits ls = false) : alS ls = [] ∧ alE ls = 11 := by unfold alS alE; rw [h]; exact ⟨rfl, rfl⟩
theorem take_next (ls : List Bs) (k : Nat) (h : k < ls.length) : ls.take (k + 1) = ls.take k ++ [ls[k]] := List.take_succ_eq_append_getElem h
theorem frs_take_le (ls : List Bs) (k : Nat) : (frs (ls.take k)).length ≤ (frs ls).length := by
  conv => rhs; rw [← List.take_append_drop k ls, frs_append]
  simp
set_option maxRecDepth 100000 in
set_option maxHeartbeats 3200000 in
theorem all_any (v : Value) (ls : List Bs) (w : World) (h : Ls w v ls) (hB : (frs ls).length ≤ 1000000000) (hn : ls.length ≤ 1000000000) :
    Calls Try.prog 11 #[v] w fun e w' => e = .returned (.tuple #[str (alS ls), .int .i64 (alE ls)]) ∧ Below w.heap.size w w' := by
  obtain ⟨a, cap, rfl⟩ := h.shape
  have H := Lib.hid h
  have HB := Lib.hid hB
  obtain ⟨i0, hi, hz0, hz1, hz2⟩ := info_parts info5
  obtain ⟨N, hN⟩ : ∃ N, N = ls.length := ⟨_, rfl⟩
  have HN := Lib.hid hN
  rw [← hN] at hn ⊢
  clear h hB hN
  obtain ⟨S, hS⟩ : ∃ S, S = alS ls := ⟨_, rfl⟩
  obtain ⟨E, hE⟩ : ∃ E, E = alE ls := ⟨_, rfl⟩
  rw [← hS, ← hE]
  have HS := Lib.hid hS
  have HE := Lib.hid hE
  clear hS hE
  go_enter Try.func11, Try.ntmps11
  go_wp2
  go_loopw [4, 10] (fun o i wr => ∃ k : Nat, k ≤ N ∧ i = .int .i64 (k : Int) ∧ fits (ls.take k) = true ∧ Own5 wr w.heap.size o (frs (ls.take k)) ∧ Below w.heap.size w wr)
    (fun _ i _ => N - (intOf i).toNat)
  case atStart => exact ⟨0, by omega, rfl, rfl, own5_nil _ _, Below.refl _ _⟩
  case round =>
    obtain ⟨k, hk, rfl, hfit, hown, hb⟩ := hrel
    have HF := Lib.hid hfit
    obtain ⟨T, hT⟩ : ∃ T, T = frs (ls.take k) := ⟨_, rfl⟩
    rw [← hT] at hown
    have HT := Lib.hid hT
    have HTL := Lib.hid (show T.length ≤ 1000000000 by rw [hT]; exact Nat.le_trans (frs_take_le ls k) HB.out)
    clear hT
    have HO := Lib.hid hown
    obtain ⟨oa, oc, rfl⟩ := hown.shape
    clear hown hfit
    by_cases hlt : k < N
    · have q0 : (k : Int) < (N : Int) := by omega
      have hkl : k < ls.length := by rw [← HN.out]; exact hlt
      obtain ⟨g, off, rfl, hgw, hc0⟩ := H.out.at k hkl
      have hc : wr.cell? ⟨g, off + k, none⟩ = some (str ls[k]) := (hb.cell (p := ⟨g, off + k, none⟩) hgw).trans hc0
      have HX := Lib.hid (take_next ls k hkl)
      have HXM := Lib.hid (List.getElem_mem hkl)
      have HX2 := Lib.hid (show (T ++ fr ls[k]).length ≤ 1000000000 by
        have h1 := frs_take_le ls (k + 1)
        rw [HX.out, frs_snoc, ← HT.out] at h1
        exact Nat.le_trans h1 HB.out)
      obtain ⟨x, hx⟩ : ∃ x, x = ls[k] := ⟨_, rfl⟩
      rw [← hx] at hc HX HXM HX2
      clear hc0 hx hkl
      have hs := size_mk x
      by_cases hbig : 65535 < x.length
      · have hno : fits ls = false := by
          unfold fits
          rw [List.all_eq_false]
          exact ⟨x, HXM.out, by simp; omega⟩
        have h1 := HS.out.trans (al_no hno).1
        have h2 := HE.out.trans (al_no hno).2
        have q1 : (65535 : Int) < (x.length : Int) := by omega
        clear hno hs
        subst h1
        subst h2
        have hs := size_mk x
        go_wp2
        go_ret2
        exact ⟨rfl, hb⟩
      · have q1 : decide ((65535 : Int) < (x.length : Int)) = false := by simp; omega
        have HP := Lib.hid (ub_pre x.length (by omega))
        have HPB := Lib.hid (bytes_new wr (pre x.length))
        have HXL := Lib.hid (show T.length + (2 + x.length) ≤ 1000000000 by
          have := HX2.out
          rw [List.length_append, fr_length] at this; exact this)
        have HFX := Lib.hid (show fits (ls.take (k + 1)) = true by
          rw [HX.out]
          have := HF.out
          unfold fits at this ⊢
          rw [List.all_append, this]
          simp; omega)
        have hxb : (x.length : Int) ≤ 65535 := by omega
        clear hbig
        go_wp2_with (at_builtin; refine wpList_append_own_at _ rfl (.tmp 18) (.tmp 24) 28 rfl w.heap.size 5 i0 (.int .u8 0) 1 1 Try.underlying28 hi hz0 hz1 hz2 rfl (by decide) _ T.length _ rfl (World.ownsRow.alloc HO.out _) ⟨wr.heap.size, 0, none⟩ 2 2 (ub (pre x.length)) rfl rfl (by rw [← HP.out]; exact HPB.out) (by simp [ub, Value.oneCell']) (by have := HTL.out; unfold maxLen; omega) (by have := HTL.out; omega) (by have := hb.size; simp; omega) ?_)
        intro v1 w1 hown1 hg1 _ _
        have A := Lib.hid (own5_next HO.out (Nat.le_refl _) (hb.alloc hb.size _) hown1 hg1)
        clear hown1 hg1
        obtain ⟨a1, c1, rfl⟩ := A.out.1.shape
        obtain ⟨T1, hT1⟩ : ∃ T1, T1 = T ++ pre x.length := ⟨_, rfl⟩
        rw [← hT1] at A ⊢
        have hl1 : T1.length = T.length + 2 := by rw [hT1, List.length_append, pre_length]
        have HT1 := Lib.hid hT1
        have HL1 := Lib.hid (show T1.length + x.length ≤ 1000000000 by have := HXL.out; omega)
        clear hT1 hl1
        go_wp2_with (at_builtin; refine Lib.wpList_append_own_string (P := Try.prog) _ rfl (.tmp 26) (.tmp 27) 28 9 rfl w.heap.size 5 i0 Try.underlying28 Try.underlying9 hi hz0 hz1 hz2 _ T1.length (ub T1) rfl A.out.1 ⟨x.toArray⟩ rfl (by rw [size_mk]; have := HL1.out; unfold maxLen; omega) (by rw [size_mk]; have := HL1.out; omega) A.out.2.size ?_)
        intro v2 w2 hown2 hg2 _
        have B := Lib.hid (own5_next (m := x) A.out.1 (Nat.le_refl _) A.out.2 hown2 hg2)
        clear hown2 hg2
        go_wp2
        go_roundw
        case rel => exact ⟨k + 1, by omega, by go_num, HFX.out, by rw [HX.out, frs_snoc, ← HT.out, show T ++ fr x = T1 ++ x by rw [HT1.out]; simp [fr]]; exact B.out.1, B.out.2⟩
        case measure => simp [intOf]; omega
    · obtain rfl : k = N := by omega
      have q0 : decide ((k : Int) < (k : Int)) = false := by simp
      have hconv := own5_back HO.out
      have e0 : ls.take k = ls := by rw [HN.out, List.take_length]
      have hyes : fits ls = true := by rw [← e0]; exact HF.out
      have h1 := HS.out.trans (al_yes hyes).1
      have h2 := HE.out.trans (al_yes hyes).2
      rw [← e0, ← HT.out] at h1
      clear hyes e0
      subst h1
      subst h2
      go_wp2
      go_ret2
      exact ⟨rfl, hb⟩
theorem one_ls (w : World) (x : Bs) : Ls (w.alloc (.cells #[str x] 9)) (.slice (some ⟨w.heap.size, 0, none⟩) 1 1) [x] :=
  .inr ⟨w.heap.size, 0, 1, rfl, by simp, fun j u hj => by
    match j with
    | 0 => cases hj; exact (Boxed.new w 9 (str x)).cell
    | j + 1 => simp at hj⟩
set_option maxRecDepth 100000 in
set_option maxHeartbeats 1600000 in
theorem put_any (x : Bs) (hB : x.length ≤ 1000000) (w : World) :
    Calls Try.prog 10 #[str x] w fun e w' => e = .returned (.tuple #[str (alS [x]), .int .i64 (alE [x])]) ∧ Below w.heap.size w w' := by
  have HA := Lib.hid (all_any _ [x] _ (one_ls w x) (by simp [frs, fr_length]; omega) (by simp))
  go_enter Try.func10, Try.ntmps10
  go_wp2_with fail
  refine HA.out.mono ?_
  rintro e w1 ⟨rfl, hb⟩
  have hb2 : Below w.heap.size w w1 := ((Below.refl _ w).alloc (Nat.le_refl _) _).trans (hb.mono (by simp))
  clear hb
  go_wp2
  go_ret2
  exact ⟨rfl, hb2⟩
end Go.Proofs.Ytnhjbhmhloeaeaa
