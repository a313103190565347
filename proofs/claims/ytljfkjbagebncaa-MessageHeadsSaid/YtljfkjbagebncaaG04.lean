/-
  MakeMath: What labels make: a name, or an error; plain mathematics.
  RMake: What the document's Make answers, for every list of labels; no older memory is changed.
-/
import Derived.Test.YtljfkjbagebncaaG01
import Derived.Test.YtljfkjbagebncaaG02
import Derived.RegionTactic
import Derived.BigRegion

/- MakeMath -/
namespace Go.Proofs.Ytljfkjbagebncaa
/-- The error that labels make. -/
def mkE (ls : List Bs) : Int := if ∀ x ∈ ls, OkL x then (if 255 < (enc ls).length + 1 then 11 else 0) else 10
/-- The name that labels make. -/
def mkS (ls : List Bs) : Bs := if mkE ls = 0 then enc ls ++ [0] else []
theorem mkE_nil : mkE [] = 0 := by decide
theorem mkE_bad {ls : List Bs} {x : Bs} (h : ¬ OkL x) : 10 = mkE (ls ++ [x]) := by
  unfold mkE
  rw [if_neg]
  intro h2
  exact h (h2 x (by simp))
theorem mkE_keep {ls : List Bs} {x : Bs} (hx : OkL x) (h : ¬ mkE ls = 0) : mkE ls = mkE (ls ++ [x]) := by
  unfold mkE at h ⊢
  by_cases h1 : ∀ y ∈ ls, OkL y
  · rw [if_pos h1] at h ⊢
    have h2 : ∀ y ∈ ls ++ [x], OkL y := by
      intro y hy
      rcases List.mem_append.1 hy with hy | hy
      · exact h1 y hy
      · rw [List.mem_singleton.1 hy]; exact hx
    rw [if_pos h2, enc_snoc_length]
    by_cases h3 : 255 < (enc ls).length + 1
    · rw [if_pos h3, if_pos (by omega)]
    · rw [if_neg h3] at h; exact absurd rfl h
  · rw [if_neg h1, if_neg]
    intro h2
    exact h1 fun y hy => h2 y (by simp [hy])
theorem mkE_ok {ls : List Bs} (h : mkE ls = 0) : (∀ x ∈ ls, OkL x) ∧ (enc ls).length ≤ 254 := by
  unfold mkE at h
  by_cases h1 : ∀ y ∈ ls, OkL y
  · rw [if_pos h1] at h
    by_cases h3 : 255 < (enc ls).length + 1
    · rw [if_pos h3] at h; omega
    · exact ⟨h1, by omega⟩
  · rw [if_neg h1] at h; omega
theorem ok_snoc {ls : List Bs} {x : Bs} (h : ∀ y ∈ ls, OkL y) (hx : OkL x) : ∀ y ∈ ls ++ [x], OkL y := by
  intro y hy
  rcases List.mem_append.1 hy with hy | hy
  · exact h y hy
  · rw [List.mem_singleton.1 hy]; exact hx
theorem mkE_long {ls : List Bs} {x : Bs} (hx : OkL x) (h : mkE ls = 0) (h2 : 255 < (enc ls).length + 1 + x.length + 1) : 11 = mkE (ls ++ [x]) := by
  obtain ⟨h1, h3⟩ := mkE_ok h
  unfold mkE
  rw [if_pos (ok_snoc h1 hx), enc_snoc_length, if_pos h2]
theorem mkE_more {ls : List Bs} {x : Bs} (hx : OkL x) (h : mkE ls = 0) (h2 : (enc ls).length + 1 + x.length + 1 ≤ 255) : 0 = mkE (ls ++ [x]) := by
  obtain ⟨h1, h3⟩ := mkE_ok h
  unfold mkE
  rw [if_pos (ok_snoc h1 hx), enc_snoc_length, if_neg (by omega)]
theorem mkS_zero {ls : List Bs} (h : mkE ls = 0) : mkS ls = enc ls ++ [0] := by unfold mkS; rw [if_pos h]
theorem mkS_no {ls : List Bs} (h : ¬ mkE ls = 0) : mkS ls = [] := by unfold mkS; rw [if_neg h]
theorem enc_snoc (ls : List Bs) (x : Bs) : enc (ls ++ [x]) = enc ls ++ [UInt8.ofNat x.length] ++ x := by
  rw [enc_append]; simp [enc, enc1]
end Go.Proofs.Ytljfkjbagebncaa

/- RMake -/
namespace Go.Proofs.Ytljfkjbagebncaa
open Go.RowKit
/-- What stands there when some labels have come. -/
def mid (ls : List Bs) (s : ByteArray) : Prop := (∀ x ∈ ls, OkL x) ∧ ((s.size ≤ 255 ∧ s.data.toList = enc ls) ∨ (255 < s.size ∧ s.size ≤ 400 ∧ 255 < (enc ls).length))
theorem mid_more {ls : List Bs} {s y : ByteArray} (h : mid ls s) (hy : OkL y.data.toList) (h2 : s.size ≤ 255) : mid (ls ++ [y.data.toList]) (s ++ ⟨#[UInt8.ofNat y.size]⟩ ++ y) := by
  obtain ⟨h1, h3⟩ := h
  refine ⟨ok_snoc h1 hy, ?_⟩
  have e : s.data.toList = enc ls := by
    rcases h3 with h3 | h3
    · exact h3.2
    · omega
  have ed : (s ++ ⟨#[UInt8.ofNat y.size]⟩ ++ y).data.toList = enc (ls ++ [y.data.toList]) := by
    rw [enc_snoc, ← size_list, ← e]; simp
  have es : (s ++ ⟨#[UInt8.ofNat y.size]⟩ ++ y).size = (enc (ls ++ [y.data.toList])).length := by rw [size_list, ed]
  have hl : (enc (ls ++ [y.data.toList])).length = (enc ls).length + 1 + y.data.toList.length := enc_snoc_length _ _
  have hs : s.size = (enc ls).length := by rw [size_list, e]
  have := hy.2
  by_cases h4 : (enc (ls ++ [y.data.toList])).length ≤ 255
  · exact .inl ⟨by rw [es]; exact h4, ed⟩
  · exact .inr ⟨by rw [es]; omega, by rw [es]; omega, by omega⟩
theorem mid_same {ls : List Bs} {s : ByteArray} {x : Bs} (h : mid ls s) (hx : OkL x) (h2 : ¬ s.size ≤ 255) : mid (ls ++ [x]) s := by
  obtain ⟨h1, h3⟩ := h
  refine ⟨ok_snoc h1 hx, .inr ?_⟩
  rcases h3 with h3 | h3
  · omega
  · rw [enc_snoc_length]; omega
theorem mid_long {ls : List Bs} {s : ByteArray} (h : mid ls s) (h2 : 254 < s.size) : 11 = mkE ls ∧ [] = mkS ls := by
  obtain ⟨h1, h3⟩ := h
  have e : 11 = mkE ls := by
    unfold mkE
    rw [if_pos h1, if_pos]
    rcases h3 with h3 | h3
    · rw [← h3.2, ← size_list]; omega
    · omega
  exact ⟨e, by rw [mkS_no (by omega)]⟩
theorem mid_fits {ls : List Bs} {s : ByteArray} (h : mid ls s) (h2 : ¬ 254 < s.size) : 0 = mkE ls ∧ s ++ ⟨#[0]⟩ = ⟨(mkS ls).toArray⟩ := by
  obtain ⟨h1, h3⟩ := h
  rcases h3 with h3 | h3
  · have e : 0 = mkE ls := by
      unfold mkE
      rw [if_pos h1, if_neg]
      rw [← h3.2, ← size_list]; omega
    refine ⟨e, ?_⟩
    rw [mkS_zero e.symm, ← h3.2]
    apply ByteArray.ext
    apply Array.toList_inj.1
    simp
  · omega
theorem mkE_bad_mem {ls : List Bs} {x : Bs} (hx : x ∈ ls) (h : ¬ OkL x) : 10 = mkE ls ∧ [] = mkS ls := by
  have e : 10 = mkE ls := by
    unfold mkE
    rw [if_neg]
    exact fun h2 => h (h2 x hx)
  exact ⟨e, by rw [mkS_no (by omega)]⟩
theorem zero_back (w : World) : (convert 47 9 (.slice (some ⟨w.heap.size, 0, none⟩) 1 1)).run Try.prog (w.alloc (.cells #[.int .u8 0] 5)) = .ok (.string ⟨#[0]⟩) (w.alloc (.cells #[.int .u8 0] 5)) :=
  run_convert_bytes_back (P := Try.prog) _ 47 9 5 ⟨w.heap.size, 0, none⟩ 1 [0] Try.underlying47 Try.underlying5 Try.underlying9 (fun j hj => by
    have hj0 : j = 0 := by simp at hj; omega
    subst hj0
    exact cell_one_new w (.int .u8 0) 5 0 (.int .u8 0) rfl)
theorem one_back (w : World) (m : Nat) (hm : m ≤ 63) : (convert 47 9 (.slice (some ⟨w.heap.size, 0, none⟩) 1 1)).run Try.prog (w.alloc (.cells #[.int .u8 (m : Int)] 5)).drew = .ok (.string ⟨#[UInt8.ofNat m]⟩) (w.alloc (.cells #[.int .u8 (m : Int)] 5)).drew :=
  run_convert_bytes_back (P := Try.prog) _ 47 9 5 ⟨w.heap.size, 0, none⟩ 1 [UInt8.ofNat m] Try.underlying47 Try.underlying5 Try.underlying9 (fun j hj => by
    have hj0 : j = 0 := by simp at hj; omega
    subst hj0
    have e : (UInt8.ofNat m).toNat = m := by simp; omega
    have := cell_one_new w (.int .u8 (m : Int)) 5 0 (.int .u8 (m : Int)) rfl
    simp only [List.getElem_cons_zero, e]
    exact this)
set_option maxRecDepth 100000 in
set_option maxHeartbeats 1600000 in
theorem rmake_some (b off cap : Nat) (ls : List Bs) (w : World) (hb : b < w.heap.size) (hc : ∀ j x, ls[j]? = some x → w.cell? ⟨b, off + j, none⟩ = some (str x)) (hn : ls.length ≤ 1000000) (hm : ∀ x ∈ ls, x.length ≤ 1000000) :
    Calls Try.prog 76 #[.slice (some ⟨b, off, none⟩) ls.length cap] w fun e w' => e = .returned (.tuple #[str (mkS ls), .int .i64 (mkE ls)]) ∧ Below w.heap.size w w' := by
  have HC := Lib.hid hc
  have HM := Lib.hid hm
  clear hc hm
  obtain ⟨n, hN⟩ : ∃ n, n = ls.length := ⟨_, rfl⟩
  rw [← hN] at hn ⊢
  have HN := Lib.hid hN
  clear hN
  go_enter Try.func76, Try.ntmps76
  go_wp2
  go_loopw [4, 5] (fun s i wr => ∃ (k : Nat) (t : ByteArray), k ≤ n ∧ i = .int .i64 k ∧ s = .string t ∧ mid (ls.take k) t ∧ Below w.heap.size w wr) (fun _ i _ => n - (intOf i).toNat)
  case atStart => exact ⟨0, ⟨#[]⟩, by omega, rfl, rfl, ⟨by simp, .inl ⟨by decide, rfl⟩⟩, Below.refl _ _⟩
  case round =>
    obtain ⟨k, t, hk, rfl, rfl, hmid, hbr⟩ := hrel
    by_cases hlt : k < n
    · obtain ⟨x, hx⟩ : ∃ x, ls[k]? = some x := ⟨_, List.getElem?_eq_getElem (by rw [← HN.out]; exact hlt)⟩
      have hcell : wr.cell? ⟨b, off + k, none⟩ = some (.string ⟨x.toArray⟩) := (hbr.cell (p := ⟨b, off + k, none⟩) hb).trans (HC.out k x hx)
      have hxm := HM.out x (List.mem_of_getElem? hx)
      have HX := Lib.hid hx
      clear hx
      obtain ⟨y, hy⟩ : ∃ y : ByteArray, y = ⟨x.toArray⟩ := ⟨_, rfl⟩
      have hyx : y.size = x.length := by rw [hy]; rfl
      have hyl : y.data.toList = x := by rw [hy]
      rw [← hy] at hcell
      rw [← hyx] at hxm
      have HY := Lib.hid hyl
      have HYX := Lib.hid hyx
      clear hy hyl hyx
      obtain ⟨m, hym⟩ : ∃ m, y.size = m := ⟨_, rfl⟩
      rw [hym] at hxm
      have HYM := Lib.hid hym
      have hbad : ¬ OkL x → 10 = mkE ls ∧ [] = mkS ls := fun h => mkE_bad_mem (List.mem_of_getElem? HX.out) h
      have HBAD := Lib.hid hbad
      have HMID := Lib.hid hmid
      clear hbad hmid
      by_cases g1 : m < 1
      · have q1 : (m : Int) < 1 := by omega
        have E := Lib.hid (HBAD.out (fun h => by have := h.1; rw [← HYX.out, HYM.out] at this; omega))
        go_wp2
        go_ret2
        exact ⟨ret_si (by rw [← E.out.2]) E.out.1, hbr⟩
      · have q1 : decide ((m : Int) < 1) = false := by simp; omega
        by_cases g2 : 63 < m
        · have q2 : (63 : Int) < (m : Int) := by omega
          have E := Lib.hid (HBAD.out (fun h => by have := h.2; rw [← HYX.out, HYM.out] at this; omega))
          go_wp2
          go_ret2
          exact ⟨ret_si (by rw [← E.out.2]) E.out.1, hbr⟩
        · have q2 : decide ((63 : Int) < (m : Int)) = false := by simp; omega
          have HOK : Hid (OkL x) := Lib.hid ⟨by rw [← HYX.out, HYM.out]; omega, by rw [← HYX.out, HYM.out]; omega⟩
          by_cases g3 : t.size ≤ 255
          · have q3 : (t.size : Int) ≤ 255 := by omega
            have hbw : b < wr.heap.size := Nat.lt_of_lt_of_le hb hbr.size
            have hone := one_back wr m (by omega)
            have hwr : IntKind.u8.wrap (m : Int) = (m : Int) := by simp [IntKind.wrap, IntKind.bits, IntKind.signed]; omega
            have hadd1 : ∀ w, (Op.stringOp .add t ⟨#[UInt8.ofNat m]⟩).run Try.prog w = .ok (.string (t ++ ⟨#[UInt8.ofNat m]⟩)) w := fun w => run_string_add_sum w t _ (by show t.size + 1 ≤ _; omega)
            have hadd2 : ∀ w, (Op.stringOp .add (t ++ ⟨#[UInt8.ofNat m]⟩) y).run Try.prog w = .ok (.string (t ++ ⟨#[UInt8.ofNat m]⟩ ++ y)) w := fun w => run_string_add_sum w _ _ (by rw [ByteArray.size_append]; show t.size + 1 + y.size ≤ _; omega)
            have HN2 : Hid (mid (ls.take (k + 1)) (t ++ ⟨#[UInt8.ofNat m]⟩ ++ y)) := Lib.hid (by
              rw [take_snoc HX.out, ← HYM.out, ← HY.out]
              exact mid_more HMID.out (by rw [HY.out]; exact HOK.out) g3)
            go_wp2
            go_region
            clear hone hwr hadd1 hadd2
            have hb2 : Below w.heap.size w (wr.alloc (.cells #[.int .u8 (m : Int)] 5)).drew := (hbr.alloc hbr.size _).drew
            go_wp2
            go_roundw
            case rel => exact ⟨k + 1, _, by omega, by go_num, rfl, HN2.out, hb2⟩
            case measure => simp [intOf]; omega
          · have q3 : decide ((t.size : Int) ≤ 255) = false := by simp; omega
            have HN2 : Hid (mid (ls.take (k + 1)) t) := Lib.hid (by
              rw [take_snoc HX.out]
              exact mid_same HMID.out HOK.out g3)
            go_wp2
            go_roundw
            case rel => exact ⟨k + 1, _, by omega, by go_num, rfl, HN2.out, hbr⟩
            case measure => simp [intOf]; omega
    · have hks : k = n := by omega
      have hmid' : mid ls t := by rw [List.take_of_length_le (by rw [← HN.out]; omega)] at hmid; exact hmid
      have HMID := Lib.hid hmid'
      clear hks hmid hmid'
      by_cases g : 254 < t.size
      · have q : (254 : Int) < (t.size : Int) := by omega
        have E := Lib.hid (mid_long HMID.out g)
        go_wp2
        go_ret2
        exact ⟨ret_si (by rw [← E.out.2]) E.out.1, hbr⟩
      · have q : decide ((254 : Int) < (t.size : Int)) = false := by simp; omega
        have E := Lib.hid (mid_fits HMID.out g)
        have hz := zero_back wr
        have hadd1 : ∀ w, (Op.stringOp .add t ⟨#[0]⟩).run Try.prog w = .ok (.string (t ++ ⟨#[0]⟩)) w := fun w => run_string_add_sum w t _ (by show t.size + 1 ≤ _; omega)
        go_wp2
        go_ret2
        exact ⟨ret_si E.out.2 E.out.1, hbr.alloc hbr.size _⟩
set_option maxRecDepth 100000 in
set_option maxHeartbeats 1600000 in
theorem rmake_nil (w : World) :
    Calls Try.prog 76 #[.slice none 0 0] w fun e w' => e = .returned (.tuple #[str (mkS []), .int .i64 (mkE [])]) ∧ Below w.heap.size w w' := by
  have hz := zero_back w
  have hadd1 : ∀ w, (Op.stringOp .add ⟨#[]⟩ ⟨#[0]⟩).run Try.prog w = .ok (.string (⟨#[]⟩ ++ ⟨#[0]⟩)) w := fun w => run_string_add_sum w _ _ (by decide)
  go_enter Try.func76, Try.ntmps76
  go_wp2
  go_loopw [4, 5] (fun s i wr => i = .int .i64 0 ∧ s = .string ⟨#[]⟩ ∧ w = wr) (fun _ _ _ => 0)
  case atStart => exact ⟨rfl, rfl, rfl⟩
  case round =>
    obtain ⟨rfl, rfl, rfl⟩ := hrel
    go_wp2
    go_ret2
    exact ⟨ret_si (by decide) (by decide), (Below.refl _ _).alloc (Nat.le_refl _) _⟩
theorem rmake_any (v : Value) (ls : List Bs) (w : World) (h : Rd w v ls) (hn : ls.length ≤ 1000000) (hm : ∀ x ∈ ls, x.length ≤ 1000000) :
    Calls Try.prog 76 #[v] w fun e w' => e = .returned (.tuple #[str (mkS ls), .int .i64 (mkE ls)]) ∧ Below w.heap.size w w' := by
  rcases h with ⟨rfl, rfl⟩ | ⟨b, off, cap, rfl, hb, hc⟩
  · exact rmake_nil w
  · exact rmake_some b off cap ls w hb hc hn hm
end Go.Proofs.Ytljfkjbagebncaa
