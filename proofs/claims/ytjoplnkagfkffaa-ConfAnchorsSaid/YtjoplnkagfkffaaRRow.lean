/-
  What the document's row answers, for every text; no older memory is changed.
-/
import Derived.Test.YtjoplnkagfkffaaStrs
namespace Go.Proofs.Ytjoplnkagfkffaa
open Go.RowKit
theorem ret_vb {v : Value} {a b : Bool} (h : a = b) : Ending.returned (.tuple #[v, .bool a]) = .returned (.tuple #[v, .bool b]) := by rw [h]
theorem row_end (s : ByteArray) (pre : List Bs) (r : Bs) (e : s.data.toList = enc pre ++ r) (h : ¬ (enc pre).length < s.size) : false = (r == [0]) ∧ (((enc pre).length : Int) == (s.size : Int) - 1) = false := by
  have h1 : s.size = (enc pre).length + r.length := by rw [size_list, e, List.length_append]
  have h2 : r = [] := List.length_eq_zero_iff.1 (by omega)
  subst h2
  exact ⟨by decide, by simp at h1; simp; omega⟩
theorem row_zero (s : ByteArray) (pre : List Bs) (r : Bs) (e : s.data.toList = enc pre ++ r) (h : (enc pre).length < s.size) (h0 : s[(enc pre).length].toNat = 0) : (((enc pre).length : Int) == (s.size : Int) - 1) = (r == [0]) := by
  obtain ⟨c, t, rfl, h1, h2⟩ := at_rest s pre r e h
  rw [h1] at h0
  obtain rfl : c = 0 := UInt8.toNat_inj.1 (by simpa using h0)
  rw [Bool.eq_iff_iff]
  simp
  constructor
  · intro h3; exact List.length_eq_zero_iff.1 (by omega)
  · rintro rfl; simp at h2; omega
theorem row_bad (s : ByteArray) (pre : List Bs) (r : Bs) (e : s.data.toList = enc pre ++ r) (h : (enc pre).length < s.size) (h0 : ¬ s[(enc pre).length].toNat = 0) : false = (r == [0]) := by
  obtain ⟨c, t, rfl, h1, h2⟩ := at_rest s pre r e h
  rw [h1] at h0
  symm
  simp
  intro h3 _
  subst h3
  exact h0 rfl
set_option maxRecDepth 100000 in
set_option maxHeartbeats 1600000 in
theorem rrow_any (s : ByteArray) (hs : s.size ≤ 1000000) (w : World) :
    Calls Try.prog 19 #[.string s] w fun e w' => ∃ v, e = .returned (.tuple #[v, .bool (rest s.data.toList == [0])]) ∧ (rest s.data.toList = [0] → Own9 w' w.heap.size v (labs s.data.toList)) ∧ Below w.heap.size w w' := by
  obtain ⟨i0, hi, hz0, hz1, hz2⟩ := info_parts info9
  go_enter Try.func19, Try.ntmps19
  go_wp2
  go_loopw [4, 5] (fun v i wr => ∃ (pre rst : List Bs), labs s.data.toList = pre ++ rst ∧ (enc pre).length ≤ s.size ∧ i = .int .i64 ((enc pre).length : Int) ∧ Own9 wr w.heap.size v pre ∧ Below w.heap.size w wr)
    (fun _ i _ => s.size - (intOf i).toNat)
  case atStart => exact ⟨[], _, rfl, Nat.zero_le _, rfl, own9_nil _ _, Below.refl _ _⟩
  case round =>
    obtain ⟨pre, rst, hl, hle, rfl, hown, hb⟩ := hrel
    have hsp := split s.data.toList
    have hok := labs_ok s.data.toList
    rw [hl] at hsp hok
    have HOWN := Lib.hid hown
    clear hown
    cases rst with
    | nil =>
      simp only [List.append_nil] at hl hsp
      have hr := stop_rest s pre _ hsp.symm (rest_step _)
      have e1 := row_end s pre _ hsp.symm
      have e2 := row_zero s pre _ hsp.symm
      have e3 := row_bad s pre _ hsp.symm
      have HL := Lib.hid hl
      clear hl hsp hok
      generalize hp : (enc pre).length = p at hle hr e1 e2 e3 ⊢
      clear hp
      by_cases hlt : p < s.size
      · have hr' := hr hlt
        have e2 := e2 hlt
        have e3 := e3 hlt
        have q0 : (p : Int) < (s.size : Int) := by omega
        obtain ⟨c, hc'⟩ : ∃ c, s[p].toNat = c := ⟨_, rfl⟩
        have hcb : (c : Int) < 256 := by have := s[p].toNat_lt; omega
        rw [hc'] at hr' e2 e3
        have E2 := Lib.hid e2
        have E3 := Lib.hid e3
        clear hr e1 e2 e3
        by_cases g1 : c = 0
        · have E := Lib.hid (E2.out g1)
          subst g1
          clear hr' E2 E3
          go_wp2
          go_ret2
          exact ⟨_, by first | exact ret_vb E.out | rfl, fun _ => by rw [HL.out]; exact HOWN.out, hb⟩
        · have q1 : ((c : Int) == 0) = false := by simp; omega
          have q1' : ((c : Int) != 0) = true := by simp; omega
          have E := Lib.hid (E3.out g1)
          by_cases g2 : 63 < c
          · have q2 : (63 : Int) < (c : Int) := by omega
            clear hr' E2 E3
            go_wp2
            go_ret2
            exact ⟨_, ret_vb E.out, fun h => by have := E.out; rw [h] at this; simp at this, hb⟩
          · have q2 : decide ((63 : Int) < (c : Int)) = false := by simp; omega
            have q3 : (s.size : Int) < (p : Int) + 1 + (c : Int) := by omega
            clear hr' E2 E3
            go_wp2
            go_ret2
            exact ⟨_, ret_vb E.out, fun h => by have := E.out; rw [h] at this; simp at this, hb⟩
      · obtain ⟨e4, e5⟩ := e1 hlt
        have E4 := Lib.hid e4
        have q0 : decide ((p : Int) < (s.size : Int)) = false := by simp; omega
        clear hr e1 e2 e3 e4
        go_wp2
        go_ret2
        exact ⟨_, ret_vb E4.out, fun _ => by rw [HL.out]; exact HOWN.out, hb⟩
    | cons x rst =>
      have hx : OkL x := hok x (by simp)
      rw [enc_append, enc_cons, List.append_assoc, List.append_assoc] at hsp
      obtain ⟨hlt, hb1, hle2, hex⟩ := go_rest s pre x _ hsp.symm hx
      have HL := Lib.hid hl
      have HE := Lib.hid (enc_snoc_length pre x)
      have hpn := length_le_enc pre
      have hpn2 : pre.length ≤ 1000000 := by omega
      obtain ⟨hx1, hx2⟩ := hx
      clear hl hsp hok hpn
      generalize hp : (enc pre).length = p at hle hlt hb1 hle2 hex HE ⊢
      clear hp
      generalize hm : x.length = m at hb1 hle2 hex HE hx1 hx2 ⊢
      have q0 : (p : Int) < (s.size : Int) := by omega
      have q1 : ((m : Int) == 0) = false := by simp; omega
      have q1' : ((m : Int) != 0) = true := by simp; omega
      have q2 : decide ((63 : Int) < (m : Int)) = false := by simp; omega
      have q3 : decide ((s.size : Int) < (p : Int) + 1 + (m : Int)) = false := by simp; omega
      have hmb : (m : Int) ≤ 63 := by omega
      have hsl : ∀ w, (Instr.slice 9 (.string s) (some (.int .i64 ((p : Int) + 1))) (some (.int .i64 ((p : Int) + 1 + (m : Int)))) none).run Try.prog w = .ok (.string ⟨x.toArray⟩) w := fun w => by
        have h := run_slice_string (P := Try.prog) w 9 s .i64 .i64 ((p : Int) + 1) ((p : Int) + 1 + (m : Int)) Try.underlying9 (by omega) (by omega) (by omega)
        rw [h, ← hex]
        congr 3 <;> omega
      clear hm hex
      go_wp2_with (at_builtin; refine wpList_append_own _ rfl (.tmp 32) (.tmp 41) 22 rfl w.heap.size 9 i0 (.string ⟨#[]⟩) 1 16 Try.underlying22 hi hz0 hz1 hz2 rfl (by decide) _ _ _ rfl (World.ownsRow.alloc HOWN.out _) ⟨wr.heap.size, 0, none⟩ 1 1 [str x] rfl rfl (cell_one_new _ _ _) (by simp [Value.oneCell']) (by unfold maxLen; omega) (by omega) (by have := hb.size; simp; omega) ?_)
      intro v' w1 hown' hgrow _
      have R := Lib.hid (own9_next HOWN.out (Nat.le_refl _) hb hown' hgrow)
      clear hown' hgrow hb hsl
      go_wp2
      go_roundw
      case rel => exact ⟨pre ++ [x], rst, by rw [HL.out]; simp, by rw [HE.out]; exact hle2, by rw [HE.out]; go_num, R.out.1, R.out.2⟩
      case measure => simp [intOf]; omega
end Go.Proofs.Ytjoplnkagfkffaa
