/-
  The law DiskFull comes out true; no older memory is changed.
-/
import Derived.Test.YtpihlamhpmmeeaaLawArms
namespace Go.Proofs.Ytpihlamhpmmeeaa
open Go.RowKit
set_option maxHeartbeats 800000 in
theorem short_all (s : ByteArray) (n : Nat) (h : s.size ≤ n) (w : World) :
    Calls Try.prog 9 #[.string s, .int .i64 (n : Int)] w fun e w' => e = .returned (.string s) ∧ w = w' := by
  have q : decide ((n : Int) < (s.size : Int)) = false := by simp; omega
  go_enter Try.func9, Try.ntmps9
  go_wp2
  go_ret
  exact ⟨rfl, rfl⟩
set_option maxHeartbeats 800000 in
theorem short_cut (s : ByteArray) (n : Nat) (h : n < s.size) (w : World) :
    Calls Try.prog 9 #[.string s, .int .i64 (n : Int)] w fun e w' => e = .returned (.string (s.extract 0 n)) ∧ w = w' := by
  have q : (n : Int) < (s.size : Int) := by omega
  go_enter Try.func9, Try.ntmps9
  go_wp2
  go_ret
  exact ⟨rfl, rfl⟩
/-- A text of at most so many bytes. -/
theorem short_any (s : ByteArray) (n : Nat) : ∃ t : ByteArray, t.size ≤ n ∧ ∀ w : World, Calls Try.prog 9 #[.string s, .int .i64 (n : Int)] w fun e w' => e = .returned (.string t) ∧ w = w' := by
  by_cases h : s.size ≤ n
  · exact ⟨s, h, fun w => short_all s n h w⟩
  · exact ⟨s.extract 0 n, by simp; omega, fun w => short_cut s n (by omega) w⟩
theorem app_list (a b : ByteArray) : (a ++ b).data.toList = a.data.toList ++ b.data.toList := by
  simp
theorem app_size (a b : ByteArray) : (a ++ b).size = a.size + b.size := by
  rw [size_list, app_list, List.length_append, ← size_list, ← size_list]
/-- One file at most, with these bytes, none of them durable. -/
def ful (r c : Nat) (ex : Bool) (had : Bs) : Dk := ⟨if ex then [⟨nF, had, 0⟩] else [], r, c, 0, false, false⟩
theorem ful_used {r c : Nat} {ex : Bool} {had : Bs} (h : ex = false → had = []) : (ful r c ex had).used = had.length := by
  cases ex
  · rw [h rfl]; rfl
  · simp [ful, Dk.used, usedL, Fl.size]
theorem ful_fit {r c : Nat} {ex : Bool} {had : Bs} (h : ex = false → had = []) (n : Nat) : fitE (ful r c ex had) n = if had.length + n ≤ r then 0 else 15 := by
  unfold fitE
  rw [ful_used h]
  rfl
theorem ful_E {r c : Nat} {ex : Bool} {had : Bs} (h : ex = false → had = []) (s : Bs) : appE (ful r c ex had) s = if had.length + s.length ≤ r then 0 else 15 := by
  unfold appE preE
  rw [ful_fit h, if_neg (by simp [ful])]
  by_cases hf : had.length + s.length ≤ r
  · rw [if_pos hf, if_neg (by simp), if_neg (by simp [stopsD, ful])]
  · rw [if_neg hf, if_pos (by decide)]
theorem ful_D {r c : Nat} {ex : Bool} {had : Bs} (h : ex = false → had = []) (s : Bs) : appD (ful r c ex had) nF s = if had.length + s.length ≤ r then ful r (c + 1) true (had ++ s) else ful r c ex had := by
  have hE := ful_E (r := r) (c := c) h s
  unfold appD
  by_cases hf : had.length + s.length ≤ r
  · rw [if_pos hf] at hE
    rw [if_pos hE, if_pos hf]
    cases ex
    · rw [h rfl]
      simp [addTo, putIf, stepD, ful, findF, withF, updF, delF]
    · simp [addTo, putIf, stepD, ful, findF, withF, updF]
  · rw [if_neg hf] at hE
    rw [if_neg (by rw [hE]; decide), if_neg hf]
    unfold preD
    rw [ful_fit h, if_neg (by simp [ful]), if_pos (by rw [if_neg hf]; decide)]
theorem ful_len (r c : Nat) (ex : Bool) (had : Bs) : (ful r c ex had).fs.length ≤ 1000000 := by
  unfold ful
  cases ex <;> simp
theorem rem301 (n : Int) : ∃ K : Nat, K ≤ 300 ∧ (n.tmod 301 = (K : Int) ∨ (n.tmod 301 = -(K : Int) ∧ 0 < K)) := by
  have h1 : n.tmod 301 < 301 := Int.tmod_lt_of_pos n (by decide)
  have h2 : -301 < n.tmod 301 := by
    have := Int.tmod_lt_of_pos (-n) (b := 301) (by decide)
    rw [Int.neg_tmod] at this
    omega
  by_cases h : n.tmod 301 < 0
  · exact ⟨(-(n.tmod 301)).toNat, by omega, .inr ⟨by omega, by omega⟩⟩
  · exact ⟨(n.tmod 301).toNat, by omega, .inl (by omega)⟩
set_option maxRecDepth 100000 in
set_option maxHeartbeats 16000000 in
theorem lawFull_any (n : Int) (a : Option Addr) (len cap : Nat) (w : World) (hp : Came w a len) : Calls Try.prog 5 #[.int .i64 n, .slice a len cap] w fun e w' => e = .returned (.bool true) ∧ Below w.heap.size w w' := by
  obtain ⟨K, hK, hr⟩ := rem301 n
  have HCM := Lib.hid hp
  clear hp
  rcases hr with hr | ⟨hr, h0⟩
  all_goals
    have q0 : decide ((K : Int) < 0) = false := by simp
    go_enter Try.func5, Try.ntmps5
    go_wp2_with fail
    refine (awake_any w).mono ?_
    rintro e w0 ⟨rfl, hb0⟩
    have HB0 := Lib.hid hb0
    clear hb0
    go_wp2_with fail
    refine (new_any K (by omega) w0).mono ?_
    rintro e w1 ⟨rfl, hp1, hb1⟩
    obtain ⟨S1, hn1, _⟩ := NA.new hp1 hb1 HB0.out HB0.out.size
    obtain ⟨b, hb⟩ : ∃ b, b = w0.heap.size := ⟨_, rfl⟩
    have H1 : Hid (NA w.heap.size S1 w b (ful K 0 false []) w1) := Lib.hid (by rw [hb]; exact hn1)
    rw [← hb]
    clear hp1 hb1 hn1 hb
    go_wp2_with fail
    go_loopw [8, 9, 10, 11] (fun u i _ _ wr => ∃ (k c : Nat) (ex : Bool) (hs : ByteArray) (S : Nat → Prop), k ≤ 30 ∧ c ≤ k ∧ u = .string hs ∧ i = .int .i64 (k : Int) ∧ (ex = false → hs.data.toList = []) ∧ hs.size ≤ K ∧ NA w.heap.size S w b (ful K c ex hs.data.toList) wr) (fun _ i _ _ _ => 30 - (intOf i).toNat)
    case atStart => exact ⟨0, 0, false, ⟨#[]⟩, _, by omega, by omega, rfl, rfl, fun _ => rfl, Nat.zero_le _, H1.out⟩
    case round =>
      obtain ⟨k, c, ex, hs, S, hk, hck, rfl, rfl, hex, hsK, hna⟩ := hrel
      have HA := Lib.hid hna
      have HEX := Lib.hid hex
      have hsz : hs.size = hs.data.toList.length := size_list hs
      have HSZ := Lib.hid hsz
      clear hna hex hsz
      by_cases hlt : k < len ∧ k < 30
      · obtain ⟨hlt1, hlt2⟩ := hlt
        have q1 : (k : Int) < (len : Int) := by omega
        have q2 : (k : Int) < 30 := by omega
        obtain ⟨g, off, s, rfl, cs⟩ : ∃ g off s, a = some ⟨g, off, none⟩ ∧ wr.cell? ⟨g, off + k, none⟩ = some (.string s) := by
          rcases HCM.out with h | ⟨g, off, ss, e, hg, hc⟩
          · omega
          · exact ⟨g, off, ss k, e, (HA.out.bel.cell (p := ⟨g, off + k, none⟩) hg).trans (hc k hlt1)⟩
        obtain ⟨t, ht, hsh⟩ := short_any s 60
        have HSH := Lib.hid hsh
        have HTZ := Lib.hid (size_list t)
        clear hsh
        have A := append_any HA.out.p nF gF t (by omega) (by show c ≤ _; omega) (by show 0 ≤ _; omega) (by rw [ful_used HEX.out, ← HSZ.out]; omega) (by show K ≤ _; omega) (ful_len _ _ _ _)
        rw [ful_E HEX.out, ful_D HEX.out, ← size_list, ← size_list] at A
        have hadd : ∀ w, (Op.stringOp .add hs t).run Try.prog w = .ok (.string (hs ++ t)) w := fun w => run_string_add_sum w _ _ (by omega)
        have HAP := Lib.hid A
        clear A
        by_cases hf : hs.size + t.size ≤ K
        · rw [if_pos hf, if_pos hf] at HAP
          have q3 : (hs.size : Int) + (t.size : Int) ≤ (K : Int) := by omega
          have HAL : Hid (ful K (c + 1) true (hs.data.toList ++ t.data.toList) = ful K (c + 1) true (hs ++ t).data.toList ∧ (hs ++ t).size = hs.size + t.size) := Lib.hid ⟨by rw [app_list], app_size _ _⟩
          rw [HAL.out.1] at HAP
          go_wp2_with fail
          refine (HSH.out wr).mono ?_
          rintro e w2 ⟨rfl, rfl⟩
          go_wp2_with fail
          refine HAP.out.mono ?_
          rintro e w3 ⟨rfl, hl⟩
          obtain ⟨S3, hn3, _⟩ := HA.out.step hl
          have H3 := Lib.hid hn3
          clear hl hn3 HAP HA
          have U3 := used_any H3.out.p (by rw [ful_used (fun e => by cases e), ← size_list, HAL.out.2]; omega)
          rw [ful_used (fun e => by cases e), ← size_list] at U3
          have HU3 := Lib.hid U3
          have HSS : Hid ((hs ++ t).size ≤ K) := Lib.hid (by rw [HAL.out.2]; exact hf)
          clear U3
          go_wp2_with fail
          refine HU3.out.mono ?_
          rintro e w4 ⟨rfl, hb4⟩
          have H4 := Lib.hid (H3.out.mv hb4)
          clear hb4 HU3 H3
          go_wp2
          go_roundw
          case rel => exact ⟨k + 1, c + 1, true, hs ++ t, _, by omega, by omega, rfl, by go_num, (fun e => by cases e), HSS.out, H4.out⟩
          case measure => simp [intOf]; omega
        · rw [if_neg hf, if_neg hf] at HAP
          have q3 : decide ((hs.size : Int) + (t.size : Int) ≤ (K : Int)) = false := by simp; omega
          go_wp2_with fail
          refine (HSH.out wr).mono ?_
          rintro e w2 ⟨rfl, rfl⟩
          go_wp2_with fail
          refine HAP.out.mono ?_
          rintro e w3 ⟨rfl, hl⟩
          obtain ⟨S3, hn3, _⟩ := HA.out.step hl
          have H3 := Lib.hid hn3
          clear hl hn3 HAP HA
          have U3 := used_any H3.out.p (by rw [ful_used HEX.out, ← size_list]; omega)
          rw [ful_used HEX.out, ← size_list] at U3
          have HU3 := Lib.hid U3
          clear U3
          go_wp2_with fail
          refine HU3.out.mono ?_
          rintro e w4 ⟨rfl, hb4⟩
          have H4 := Lib.hid (H3.out.mv hb4)
          clear hb4 HU3 H3
          go_wp2
          go_roundw
          case rel => exact ⟨k + 1, c, ex, hs, _, by omega, by omega, rfl, by go_num, HEX.out, hsK, H4.out⟩
          case measure => simp [intOf]; omega
      · have q1 : (decide ((k : Int) < (len : Int)) = false) ∨ (k = 30 ∧ (30 : Int) < (len : Int)) := by
          by_cases h1 : k < len
          · right; exact ⟨by omega, by omega⟩
          · left; simp; omega
        have q1n : (decide ((k : Int) < (len : Int)) = false) → decide (k < len) = false := fun h => by simp at h; simp; omega
        have L := limit_any 0 (by omega) HA.out.p
        have HL := Lib.hid L
        clear L hlt
        rcases q1 with q1 | ⟨rfl, q1⟩
        all_goals
          first | have q2 := q1n q1 | skip
          clear q1n
          go_wp2_with fail
          refine HL.out.mono ?_
          rintro e w2 ⟨⟨u2, rfl⟩, hp2, ht2⟩
          obtain ⟨S2, hn2, _⟩ := HA.out.one hp2 ht2
          have H2 : Hid (NA w.heap.size S2 w b (ful 0 c ex hs.data.toList) w2) := Lib.hid hn2
          clear hp2 ht2 hn2
          have A2 := append_any H2.out.p nF gF ⟨#[]⟩ (by decide +kernel) (by show c ≤ _; omega) (by show 0 ≤ _; omega) (by rw [ful_used HEX.out, ← HSZ.out]; omega) (by show 0 ≤ _; omega) (ful_len _ _ _ _)
          rw [show (⟨#[]⟩ : ByteArray).data.toList = [] from rfl, ful_E HEX.out, ful_D HEX.out] at A2
          have HA2 := Lib.hid A2
          clear A2
          by_cases hz : hs = ⟨#[]⟩
          · subst hz
            have hd : (⟨#[]⟩ : ByteArray).data.toList = [] := rfl
            rw [hd, if_pos (by decide), if_pos (by decide)] at HA2
            go_wp2_with fail
            refine HA2.out.mono ?_
            rintro e w3 ⟨rfl, hl⟩
            obtain ⟨S3, hn3, _⟩ := H2.out.step hl
            have H3 : Hid (NA w.heap.size S3 w b (ful 0 (c + 1) true []) w3) := Lib.hid hn3
            clear hl hn3 HA2 H2
            have A3 := append_any H3.out.p nF gF ⟨#[120]⟩ (by decide +kernel) (by show c + 1 ≤ _; omega) (by show 0 ≤ _; omega) (by rw [ful_used (fun e => by cases e)]; decide) (by show 0 ≤ _; omega) (ful_len _ _ _ _)
            rw [show (⟨#[120]⟩ : ByteArray).data.toList = [120] from rfl, ful_E (fun e => by cases e), ful_D (fun e => by cases e), if_neg (by decide), if_neg (by decide)] at A3
            have HA3 := Lib.hid A3
            clear A3
            go_wp2_with fail
            refine HA3.out.mono ?_
            rintro e w4 ⟨rfl, hl⟩
            obtain ⟨S4, hn4, _⟩ := H3.out.step hl
            have H4 := Lib.hid hn4
            clear hl hn4 HA3 H3
            have U4 := used_any H4.out.p (by rw [ful_used (fun e => by cases e)]; decide)
            rw [ful_used (fun e => by cases e)] at U4
            have HU4 : Hid (Calls Try.prog 18 #[ptr b] w4 fun e w' => e = .returned (.int .i64 0) ∧ Below w4.heap.size w4 w') := Lib.hid U4
            clear U4
            go_wp2_with fail
            refine HU4.out.mono ?_
            rintro e w5 ⟨rfl, hb5⟩
            have H5 := Lib.hid (H4.out.mv hb5).bel
            clear hb5 HU4 H4
            go_wp2
            go_ret
            exact ⟨rfl, H5.out⟩
          · have hpos : 0 < hs.size := by
              rcases Nat.eq_zero_or_pos hs.size with h | h
              · exfalso
                apply hz
                rw [size_list] at h
                have := List.eq_nil_of_length_eq_zero h
                exact ByteArray.ext (Array.toList_inj.1 this)
              · exact h
            have hq : (hs.toList == []) = false := by
              rw [ByteArray.toList_eq, beq_eq_false_iff_ne]
              intro h
              rw [size_list, h] at hpos
              simp at hpos
            have hlp : ¬ hs.data.toList.length + ([] : Bs).length ≤ 0 := by show ¬ hs.data.toList.length + 0 ≤ 0; rw [← size_list]; omega
            rw [if_neg hlp, if_neg hlp] at HA2
            go_wp2_with fail
            refine HA2.out.mono ?_
            rintro e w3 ⟨rfl, hl⟩
            obtain ⟨S3, hn3, _⟩ := H2.out.step hl
            have H3 : Hid (NA w.heap.size S3 w b (ful 0 c ex hs.data.toList) w3) := Lib.hid hn3
            clear hl hn3 HA2 H2
            have A3 := append_any H3.out.p nF gF ⟨#[120]⟩ (by decide +kernel) (by show c ≤ _; omega) (by show 0 ≤ _; omega) (by rw [ful_used HEX.out, ← HSZ.out]; omega) (by show 0 ≤ _; omega) (ful_len _ _ _ _)
            have hlp2 : ¬ hs.data.toList.length + ([120] : Bs).length ≤ 0 := by simp
            rw [show (⟨#[120]⟩ : ByteArray).data.toList = [120] from rfl, ful_E HEX.out, ful_D HEX.out, if_neg hlp2, if_neg hlp2] at A3
            have HA3 := Lib.hid A3
            clear A3 hlp hlp2
            go_wp2_with fail
            refine HA3.out.mono ?_
            rintro e w4 ⟨rfl, hl⟩
            obtain ⟨S4, hn4, _⟩ := H3.out.step hl
            have H4 := Lib.hid hn4
            clear hl hn4 HA3 H3
            have U4 := used_any H4.out.p (by rw [ful_used HEX.out, ← HSZ.out]; omega)
            rw [ful_used HEX.out, ← HSZ.out] at U4
            have HU4 := Lib.hid U4
            clear U4
            go_wp2_with fail
            refine HU4.out.mono ?_
            rintro e w5 ⟨rfl, hb5⟩
            have H5 := Lib.hid (H4.out.mv hb5).bel
            clear hb5 HU4 H4
            go_wp2
            go_ret
            exact ⟨rfl, H5.out⟩
end Go.Proofs.Ytpihlamhpmmeeaa
