/-
  RefNames: What the document's look at data answers: the first name, the names, whether data are right; for every text. No older memory is changed.
  RefCheck: What the document's Names, Right and Check answer, for every text and record. No older memory is changed.
-/
import Derived.Test.YtljfkjbagebncaaG13
import Derived.Test.YtljfkjbagebncaaG03
import Derived.Test.YtljfkjbagebncaaG17

/- RefNames -/
namespace Go.Proofs.Ytljfkjbagebncaa
open Go.RowKit
theorem slice_to (s : ByteArray) (j : Int) (h0 : 0 ≤ j) (h1 : j ≤ s.size) (w : World) : (Instr.slice 9 (.string s) none (some (.int .i64 j)) none).run Try.prog w = .ok (str (s.data.toList.take j.toNat)) w := by
  have h := run_slice_string_h (P := Try.prog) w 9 s Try.underlying9 .i64 j h0 h1
  rw [h, extract_piece s 0 j.toNat (Nat.zero_le _)]
  simp
theorem slice_from (s : ByteArray) (j : Int) (h0 : 0 ≤ j) (h1 : j ≤ s.size) (w : World) : (Instr.slice 9 (.string s) (some (.int .i64 j)) none none).run Try.prog w = .ok (str (s.data.toList.drop j.toNat)) w := by
  have h := run_slice_string_l (P := Try.prog) w 9 s Try.underlying9 .i64 j h0 h1
  rw [h, extract_piece s j.toNat s.size (by omega), List.take_of_length_le (by rw [List.length_drop, ← size_list]; omega)]
def fsV (x : Option (Bs × Bs)) : Value := match x with
  | some (n, r) => .tuple #[str n, str r, .bool true]
  | none => .tuple #[str [], str [], .bool false]
set_option maxRecDepth 100000 in
set_option maxHeartbeats 3200000 in
theorem first_any (s : ByteArray) (hs : s.size ≤ 1000000) (w : World) :
    Calls Try.prog 116 #[.string s] w fun e w' => e = .returned (fsV (fst1 s.data.toList)) ∧ Below w.heap.size w w' := by
  have HS := Lib.hid (size_list s)
  have hsi : (s.size : Int) ≤ 1000000 := by omega
  go_enter Try.func116, Try.ntmps116
  go_wp2
  go_loopw [5] (fun i wr => ∃ p : Nat, p ≤ s.size + 256 ∧ i = .int .i64 p ∧ jF s.data.toList 0 = jF s.data.toList p ∧ w = wr) (fun i _ => s.size - (intOf i).toNat)
  case atStart => exact ⟨0, by omega, rfl, rfl, rfl⟩
  case round =>
    obtain ⟨p, hp, rfl, hj, rfl⟩ := hrel
    by_cases hlt : p < s.size
    · have q1 : (p : Int) < (s.size : Int) := by omega
      have hga := get_at s p hlt
      obtain ⟨c, hc⟩ : ∃ c, s[p].toNat = c := ⟨_, rfl⟩
      have hcb : (c : Int) < 256 := by have := s[p].toNat_lt; omega
      by_cases g : c = 0
      · rw [jF_stop (p := p) (by rw [← hga, hc]; omega)] at hj
        have q2 : ((c : Int) == 0) = true := by simp; omega
        have q2' : ((c : Int) != 0) = false := by simp; omega
        have q3 : decide ((s.size : Int) ≤ (p : Int)) = false := by simp; omega
        have s1 := slice_to s ((p : Int) + 1) (by omega) (by omega)
        have s2 := slice_from s ((p : Int) + 1) (by omega) (by omega)
        rw [show ((p : Int) + 1).toNat = p + 1 by omega] at s1 s2
        have C := fun w => rcheck_any ⟨(s.data.toList.take (p + 1)).toArray⟩ (by show (s.data.toList.take (p + 1)).length ≤ _; rw [List.length_take]; have := HS.out; omega) w
        have E : fst1 s.data.toList = if chk (s.data.toList.take (p + 1)) = 0 then some (s.data.toList.take (p + 1), s.data.toList.drop (p + 1)) else none := by
          unfold fst1 fstOk
          rw [hj]
          by_cases hk : chk (s.data.toList.take (p + 1)) = 0
          · rw [if_pos hk, if_pos]; simp only [decide_eq_true_eq]; exact ⟨by rw [← HS.out]; exact hlt, hk⟩
          · rw [if_neg hk, if_neg]; simp only [decide_eq_true_eq]; exact fun h => hk h.2
        have C' : ∀ w : World, Calls Try.prog 113 #[str (s.data.toList.take (p + 1))] w fun e w' => e = .returned (.int .i64 (chk (s.data.toList.take (p + 1)))) ∧ Below w.heap.size w w' := C
        have HE := Lib.hid E
        clear C E hga hj
        generalize s.data.toList.take (p + 1) = X at s1 C' HE
        generalize s.data.toList.drop (p + 1) = Y at s2 HE
        have HC := Lib.hid C'
        clear C'
        by_cases hk : chk X = 0
        · have R : Hid (fst1 s.data.toList = some (X, Y)) := Lib.hid (by rw [HE.out, if_pos hk])
          rw [hk] at HC
          clear hk g
          go_wp2_with fail
          refine (HC.out _).mono ?_
          rintro e w1 ⟨rfl, hb1⟩
          go_wp2
          go_quiet (fail)
          go_wp2
          go_ret3
          rw [R.out]
          exact ⟨rfl, hb1.trans ((drewN_below w1 _).mono hb1.size)⟩
        · have q4 : (chk X == 0) = false := by simpa using hk
          have q4' : (chk X != 0) = true := by simpa using hk
          have R : Hid (fst1 s.data.toList = none) := Lib.hid (by rw [HE.out, if_neg hk])
          clear hk g
          go_wp2_with fail
          refine (HC.out _).mono ?_
          rintro e w1 ⟨rfl, hb1⟩
          go_wp2
          go_ret3
          rw [R.out]
          exact ⟨rfl, hb1⟩
      · rw [jF_go (p := p) (by rw [← HS.out]; exact hlt) (by rw [← hga, hc]; exact g), ← hga, hc] at hj
        have q2 : ((c : Int) == 0) = false := by simp; omega
        have q2' : ((c : Int) != 0) = true := by simp; omega
        have HJ := Lib.hid hj
        clear hj hga g
        go_wp2
        go_roundw
        case rel => exact ⟨p + 1 + c, by omega, by go_num, HJ.out, trivial⟩
        case measure => simp [intOf]; omega
    · have q1 : decide ((p : Int) < (s.size : Int)) = false := by simp; omega
      have q3 : (s.size : Int) ≤ (p : Int) := by omega
      rw [jF_stop (p := p) (by rw [← HS.out]; omega)] at hj
      have R : Hid (fst1 s.data.toList = none) := Lib.hid (by unfold fst1 fstOk; rw [hj, if_neg]; simp only [decide_eq_true_eq]; rw [← HS.out]; omega)
      clear hj
      go_wp2
      go_ret3
      rw [R.out]
      exact ⟨rfl, Below.refl _ _⟩
/-- What the document's head says of a type: bytes ahead, names, bytes behind, whether it has names. -/
def nhA (t : Nat) : Nat := if t = 15 then 2 else 0
def nhN (t : Nat) : Nat := if t = 2 ∨ t = 5 ∨ t = 12 ∨ t = 15 then 1 else if t = 6 then 2 else 0
def nhB (t : Nat) : Nat := if t = 6 then 20 else 0
set_option maxRecDepth 100000 in
set_option maxHeartbeats 3200000 in
theorem rhead_any (t : Nat) (ht : t < 65536) (w : World) :
    Calls Try.prog 107 #[.int .u16 (t : Int)] w fun e w' => e = .returned (.tuple #[.int .i64 (nhA t : Int), .int .i64 (nhN t : Int), .int .i64 (nhB t : Int), .bool (named t)]) ∧ w = w' := by
  by_cases g1 : t = 2
  · subst g1
    go_enter Try.func107, Try.ntmps107
    go_wp2
    refine bodyPost_ret (by simp [results, Try.results107]; rfl) rfl ?_
    exact ⟨rfl, rfl⟩
  · have q1 : ((t : Int) == 2) = false := by simp; omega
    by_cases g2 : t = 5
    · subst g2
      go_enter Try.func107, Try.ntmps107
      go_wp2
      refine bodyPost_ret (by simp [results, Try.results107]; rfl) rfl ?_
      exact ⟨rfl, rfl⟩
    · have q2 : ((t : Int) == 5) = false := by simp; omega
      by_cases g3 : t = 12
      · subst g3
        go_enter Try.func107, Try.ntmps107
        go_wp2
        refine bodyPost_ret (by simp [results, Try.results107]; rfl) rfl ?_
        exact ⟨rfl, rfl⟩
      · have q3 : ((t : Int) == 12) = false := by simp; omega
        by_cases g4 : t = 15
        · subst g4
          go_enter Try.func107, Try.ntmps107
          go_wp2
          refine bodyPost_ret (by simp [results, Try.results107]; rfl) rfl ?_
          exact ⟨rfl, rfl⟩
        · have q4 : ((t : Int) == 15) = false := by simp; omega
          by_cases g5 : t = 6
          · subst g5
            go_enter Try.func107, Try.ntmps107
            go_wp2
            refine bodyPost_ret (by simp [results, Try.results107]; rfl) rfl ?_
            exact ⟨rfl, rfl⟩
          · have q5 : ((t : Int) == 6) = false := by simp; omega
            have e1 : nhA t = 0 := by unfold nhA; rw [if_neg g4]
            have e2 : nhN t = 0 := by unfold nhN; rw [if_neg (by omega), if_neg g5]
            have e3 : nhB t = 0 := by unfold nhB; rw [if_neg g5]
            have e4 : named t = false := by unfold named; simp; omega
            rw [e1, e2, e3, e4]
            clear g1 g2 g3 g4 g5 e1 e2 e3 e4
            go_enter Try.func107, Try.ntmps107
            go_wp2
            refine bodyPost_ret (by simp [results, Try.results107]; rfl) rfl ?_
            exact ⟨rfl, rfl⟩
end Go.Proofs.Ytljfkjbagebncaa

/- RefCheck -/
namespace Go.Proofs.Ytljfkjbagebncaa
open Go.RowKit
/-- So many names, one behind the other, and what stands behind them. -/
def nmL : Nat → Bs → Option (List Bs × Bs)
  | 0, r => some ([], r)
  | k + 1, r => match fst1 r with
    | some (n, r') => (match nmL k r' with
      | some (ns, q) => some (n :: ns, q)
      | none => none)
    | none => none
def pre (ns : List Bs) : Option (List Bs × Bs) → Option (List Bs × Bs)
  | some (a, q) => some (ns ++ a, q)
  | none => none
theorem pre_nil (o : Option (List Bs × Bs)) : pre [] o = o := by cases o <;> rfl
theorem pre_none {ns : List Bs} {k : Nat} {r : Bs} (h : fst1 r = none) : pre ns (nmL (k + 1) r) = none := by simp only [nmL, h, pre]
theorem pre_some {ns : List Bs} {k : Nat} {r n r' : Bs} (h : fst1 r = some (n, r')) : pre ns (nmL (k + 1) r) = pre (ns ++ [n]) (nmL k r') := by
  simp only [nmL, h]
  cases nmL k r' with
  | none => rfl
  | some x => obtain ⟨a, q⟩ := x; simp [pre]
theorem nms_nmL {t : Nat} (d : Bs) (h : named t = true) : nms t d = if nhA t ≤ d.length then (match nmL (nhN t) (d.drop (nhA t)) with
    | some (ns, q) => if q.length = nhB t then some (d.take (nhA t), ns, q) else none
    | none => none) else none := by
  unfold named at h
  simp only [decide_eq_true_eq] at h
  by_cases h1 : t = 15
  · subst h1
    unfold nms
    rw [if_neg (by omega), if_pos rfl, show nhA 15 = 2 from rfl, show nhN 15 = 1 from rfl, show nhB 15 = 0 from rfl]
    split
    · simp only [nmL]
      cases fst1 (d.drop 2) with
      | none => rfl
      | some x => rfl
    · rfl
  · by_cases h2 : t = 6
    · subst h2
      unfold nms
      rw [if_neg (by omega), if_neg (by omega), if_pos rfl, show nhA 6 = 0 from rfl, show nhN 6 = 2 from rfl, show nhB 6 = 20 from rfl, if_pos (Nat.zero_le _)]
      simp only [nmL, List.drop_zero, List.take_zero]
      cases fst1 d with
      | none => rfl
      | some x =>
        obtain ⟨n, r⟩ := x
        simp only
        cases fst1 r with
        | none => rfl
        | some y => rfl
    · have h3 : t = 2 ∨ t = 5 ∨ t = 12 := by omega
      have e1 : nhA t = 0 := by unfold nhA; rw [if_neg h1]
      have e2 : nhN t = 1 := by unfold nhN; rw [if_pos (by omega)]
      have e3 : nhB t = 0 := by unfold nhB; rw [if_neg h2]
      unfold nms
      rw [if_pos h3, e1, e2, e3, if_pos (Nat.zero_le _)]
      simp only [nmL, List.drop_zero, List.take_zero]
      cases fst1 d with
      | none => rfl
      | some x => rfl
def NmPost (w : World) (x : Option (Bs × List Bs × Bs)) (e : Ending) (w' : World) : Prop :=
  (∃ a v b, e = .returned (.tuple #[str a, v, str b, .bool x.isSome]) ∧ ∀ y, x = some y → a = y.1 ∧ b = y.2.2 ∧ Own9 w' w.heap.size v y.2.1) ∧ Below w.heap.size w w'
theorem nmp_none {w w' : World} {x : Option (Bs × List Bs × Bs)} (h : x = none) (hb : Below w.heap.size w w') (a b : Bs) (v : Value) : NmPost w x (.returned (.tuple #[str a, v, str b, .bool false])) w' := by
  subst h; exact ⟨⟨a, v, b, rfl, fun y h => by cases h⟩, hb⟩
set_option maxRecDepth 100000 in
set_option maxHeartbeats 6400000 in
theorem rnames_any (t : Nat) (ht : t < 65536) (s : ByteArray) (hs : s.size ≤ 1000000) (w : World) :
    Calls Try.prog 98 #[.int .u16 (t : Int), .string s] w (NmPost w (if named t then nms t s.data.toList else none)) := by
  obtain ⟨i0, hi, hz0, hz1, hz2⟩ := info_parts info9
  have HH := Lib.hid (fun w => rhead_any t ht w)
  have HS := Lib.hid (size_list s)
  have hA : nhA t ≤ 2 := by unfold nhA; split <;> omega
  have hN : nhN t ≤ 2 := by unfold nhN; split <;> (try split) <;> omega
  have hB : nhB t ≤ 20 := by unfold nhB; split <;> omega
  have E := fun h => nms_nmL (t := t) s.data.toList h
  obtain ⟨rs, hrs⟩ : ∃ rs, rs = (if named t then nms t s.data.toList else none) := ⟨_, rfl⟩
  rw [← hrs]
  by_cases g1 : named t = true
  · rw [if_pos g1, E g1] at hrs
    rw [g1] at HH
    generalize nhA t = A at HH hA hrs
    generalize nhN t = N at HH hN hrs
    generalize nhB t = B at HH hB hrs
    have hAi : (A : Int) ≤ 2 := by omega
    have hNi : (N : Int) ≤ 2 := by omega
    have hBi : (B : Int) ≤ 20 := by omega
    have HR := Lib.hid hrs
    clear E hrs
    by_cases g2 : A ≤ s.size
    · have q2 : decide ((s.size : Int) < (A : Int)) = false := by simp; omega
      have q2n : decide (s.size < A) = false := by simp; omega
      have q2m : s.size < A ↔ False := by simp; omega
      have HR2 : Hid (rs = match nmL N (s.data.toList.drop A) with
        | some (ns, q) => if q.length = B then some (s.data.toList.take A, ns, q) else none
        | none => none) := Lib.hid (by rw [HR.out, if_pos (by rw [← HS.out]; exact g2)])
      have s1 := slice_from s (A : Int) (by omega) (by omega)
      have s2 := slice_to s (A : Int) (by omega) (by omega)
      rw [Int.toNat_natCast] at s1 s2
      have hrl : (s.data.toList.drop A).length ≤ 1000000 := by rw [List.length_drop, ← HS.out]; omega
      generalize s.data.toList.drop A = R0 at HR2 s1 hrl
      generalize s.data.toList.take A = T0 at HR2 s2
      clear HR
      go_enter Try.func98, Try.ntmps98
      go_wp2_with fail
      refine (HH.out _).mono ?_
      rintro e w' ⟨rfl, rfl⟩
      go_wp2
      go_loopw [12, 13, 14] (fun x v i wr => ∃ (k : Nat) (r : Bs) (ns : List Bs), k ≤ N ∧ i = .int .i64 k ∧ x = str r ∧ r.length ≤ 1000000 ∧ Own9 wr w.heap.size v ns ∧ ns.length = k ∧ Below w.heap.size w wr ∧ pre ns (nmL (N - k) r) = nmL N R0) (fun _ _ i _ => N - (intOf i).toNat)
      case atStart => exact ⟨0, R0, [], by omega, rfl, rfl, hrl, World.ownsRow_nil _ _ _ _, rfl, Below.refl _ _, by rw [Nat.sub_zero, pre_nil]⟩
      case round =>
        obtain ⟨k, r, ns, hk, rfl, rfl, hr, hO, hnl, hb, hp⟩ := hrel
        by_cases hlt : k < N
        · have q3 : (k : Int) < (N : Int) := by omega
          have C : ∀ w : World, Calls Try.prog 116 #[str r] w fun e w' => e = .returned (fsV (fst1 r)) ∧ Below w.heap.size w w' := fun w => first_any ⟨r.toArray⟩ hr w
          rw [show N - k = (N - (k + 1)) + 1 by omega] at hp
          cases hf : fst1 r with
          | none =>
            rw [hf] at C
            rw [pre_none hf] at hp
            have HC : Hid (∀ w : World, Calls Try.prog 116 #[str r] w fun e w' => e = .returned (.tuple #[str [], str [], .bool false]) ∧ Below w.heap.size w w') := Lib.hid C
            have HN : Hid (rs = none) := Lib.hid (by rw [HR2.out, ← hp])
            have HB := Lib.hid hb
            clear C hp hf hO hb
            go_wp2_with fail
            refine (HC.out _).mono ?_
            rintro e w1 ⟨rfl, hb1⟩
            go_wp2
            refine bodyPost_ret (by simp [results, Try.results98]; rfl) rfl ?_
            exact nmp_none HN.out (HB.out.trans (hb1.mono HB.out.size)) _ _ _
          | some p =>
            obtain ⟨n, r'⟩ := p
            rw [hf] at C
            rw [pre_some hf] at hp
            have hsm := fst1_some hf
            have hr' : r'.length ≤ 1000000 := by have := congrArg List.length hsm.1; rw [List.length_append] at this; omega
            have HC : Hid (∀ w : World, Calls Try.prog 116 #[str r] w fun e w' => e = .returned (.tuple #[str n, str r', .bool true]) ∧ Below w.heap.size w w') := Lib.hid C
            have HP := Lib.hid hp
            have HB := Lib.hid hb
            have HO := Lib.hid hO
            have HNL := Lib.hid hnl
            clear C hp hf hO hsm hb hnl
            go_wp2_with fail
            refine (HC.out _).mono ?_
            rintro e w1 ⟨rfl, hb1⟩
            have HO1 := Lib.hid (HO.out.below hb1)
            have HB1 := Lib.hid (HB.out.trans (hb1.mono HB.out.size))
            have hsz := HB1.out.size
            unfold Own9 at HO1
            rw [HNL.out] at HO1
            clear hb1
            go_wp2_with (at_builtin; refine wpList_append_own _ rfl (.tmp 49) (.tmp 51) 114 rfl w.heap.size 9 i0 (.string ⟨#[]⟩) 1 16 Try.underlying114 hi hz0 hz1 hz2 rfl (by decide) _ _ _ rfl (World.ownsRow.alloc HO1.out _) ⟨w1.heap.size, 0, none⟩ 1 1 [str n] rfl rfl (cell_one_new _ _ _) (by simp [Value.oneCell']) (by unfold maxLen; omega) (by omega) (by simp; omega) ?_)
            intro v' w2 hown' hgrow _
            have RR := Lib.hid (own9_next (ls := ns) (x := n) (by unfold Own9; rw [HNL.out]; exact HO1.out) (Nat.le_refl _) HB1.out (by rw [HNL.out]; exact hown') hgrow)
            clear hown' hgrow
            go_wp2
            go_roundw
            case rel => exact ⟨k + 1, r', ns ++ [n], by omega, by go_num, rfl, hr', RR.out.1, by rw [List.length_append, HNL.out]; rfl, RR.out.2, HP.out⟩
            case measure => simp [intOf]; omega
        · have q3 : decide ((k : Int) < (N : Int)) = false := by simp; omega
          rw [show N - k = 0 by omega] at hp
          simp only [nmL, pre, List.append_nil] at hp
          have HB := Lib.hid hb
          have HO := Lib.hid hO
          have HP := Lib.hid hp
          clear hp hb hO hnl
          by_cases g3 : r.length = B
          · have q4 : ((r.length : Int) == (B : Int)) = true := by simp; omega
            have HN : Hid (rs = some (T0, ns, r)) := Lib.hid (by rw [HR2.out, ← HP.out]; simp only; rw [if_pos g3])
            clear g3
            go_wp2
            refine bodyPost_ret (by simp [results, Try.results98]; rfl) rfl ?_
            rw [HN.out]

            exact ⟨⟨_, _, r, rfl, fun y h => by cases h; exact ⟨rfl, rfl, HO.out⟩⟩, HB.out⟩
          · have q4 : ((r.length : Int) == (B : Int)) = false := by simp; omega
            have HN : Hid (rs = none) := Lib.hid (by rw [HR2.out, ← HP.out]; simp only; rw [if_neg g3])
            clear g3
            go_wp2
            refine bodyPost_ret (by simp [results, Try.results98]; rfl) rfl ?_

            exact nmp_none HN.out HB.out _ _ _
    · have q2 : (s.size : Int) < (A : Int) := by omega
      have HN : Hid (rs = none) := Lib.hid (by rw [HR.out, if_neg (by rw [← HS.out]; exact g2)])
      clear g2
      go_enter Try.func98, Try.ntmps98
      go_wp2_with fail
      refine (HH.out _).mono ?_
      rintro e w' ⟨rfl, rfl⟩
      go_wp2
      refine bodyPost_ret (by simp [results, Try.results98]; rfl) rfl ?_
      exact nmp_none HN.out (Below.refl _ _) _ _ _
  · have g1' : named t = false := by simpa using g1
    rw [g1'] at HH
    rw [if_neg g1] at hrs
    have HN := Lib.hid hrs
    clear hrs E g1
    go_enter Try.func98, Try.ntmps98
    go_wp2_with fail
    refine (HH.out _).mono ?_
    rintro e w' ⟨rfl, rfl⟩
    go_wp2
    refine bodyPost_ret (by simp [results, Try.results98]; rfl) rfl ?_
    exact nmp_none HN.out (Below.refl _ _) _ _ _
set_option maxRecDepth 100000 in
set_option maxHeartbeats 6400000 in
theorem rright_any (t : Nat) (ht : t < 65536) (s : ByteArray) (hs : s.size ≤ 1000000) (w : World) :
    Calls Try.prog 115 #[.int .u16 (t : Int), .string s] w fun e w' => e = .returned (.bool (vld t s.data.toList)) ∧ Below w.heap.size w w' := by
  have HH := Lib.hid (fun w => rhead_any t ht w)
  have HS := Lib.hid (size_list s)
  have hsi : (s.size : Int) ≤ 1000000 := by omega
  by_cases g0 : named t = true
  · have E : Hid (vld t s.data.toList = (nms t s.data.toList).isSome) := Lib.hid (by unfold vld; rw [if_pos g0])
    have C := rnames_any t ht s hs w
    rw [if_pos g0] at C
    rw [g0] at HH
    have HC := Lib.hid C
    clear C g0
    go_enter Try.func115, Try.ntmps115
    go_wp2_with fail
    refine (HH.out _).mono ?_
    rintro e w' ⟨rfl, rfl⟩
    go_wp2_with fail
    refine HC.out.mono ?_
    rintro e w1 ⟨⟨a, v, b, rfl, _⟩, hb1⟩
    go_wp2
    go_ret
    rw [E.out]
    exact ⟨rfl, hb1⟩
  · have g0' : named t = false := by simpa using g0
    have E : vld t s.data.toList = plainOk t s.data.toList := by unfold vld; rw [if_neg g0]
    rw [g0'] at HH
    clear g0 g0'
    by_cases g1 : t = 1
    · subst g1
      have E1 : vld 1 s.data.toList = decide (s.size = 4) := by rw [E, HS.out]; rfl
      rw [E1]
      by_cases g : s.size = 4
      · have q : ((s.size : Int) == 4) = true := by simp; omega
        have R : Hid (true = decide (s.size = 4)) := Lib.hid (by simp [g])
        clear g E E1
        go_enter Try.func115, Try.ntmps115
        go_wp2_with fail
        refine (HH.out _).mono ?_
        rintro e w' ⟨rfl, rfl⟩
        go_wp2
        go_ret
        exact ⟨ret_b R.out, Below.refl _ _⟩
      · have q : ((s.size : Int) == 4) = false := by simp; omega
        have R : Hid (false = decide (s.size = 4)) := Lib.hid (by simp [g])
        clear g E E1
        go_enter Try.func115, Try.ntmps115
        go_wp2_with fail
        refine (HH.out _).mono ?_
        rintro e w' ⟨rfl, rfl⟩
        go_wp2
        go_ret
        exact ⟨ret_b R.out, Below.refl _ _⟩
    · have q1 : ((t : Int) == 1) = false := by simp; omega
      by_cases g2 : t = 28
      · subst g2
        have E1 : vld 28 s.data.toList = decide (s.size = 16) := by rw [E, HS.out]; rfl
        rw [E1]
        by_cases g : s.size = 16
        · have q : ((s.size : Int) == 16) = true := by simp; omega
          have R : Hid (true = decide (s.size = 16)) := Lib.hid (by simp [g])
          clear g E E1
          go_enter Try.func115, Try.ntmps115
          go_wp2_with fail
          refine (HH.out _).mono ?_
          rintro e w' ⟨rfl, rfl⟩
          go_wp2
          go_ret
          exact ⟨ret_b R.out, Below.refl _ _⟩
        · have q : ((s.size : Int) == 16) = false := by simp; omega
          have R : Hid (false = decide (s.size = 16)) := Lib.hid (by simp [g])
          clear g E E1
          go_enter Try.func115, Try.ntmps115
          go_wp2_with fail
          refine (HH.out _).mono ?_
          rintro e w' ⟨rfl, rfl⟩
          go_wp2
          go_ret
          exact ⟨ret_b R.out, Below.refl _ _⟩
      · have q2 : ((t : Int) == 28) = false := by simp; omega
        by_cases g3 : t = 16
        · subst g3
          have E1 : Hid (vld 16 s.data.toList = txt s.data.toList) := Lib.hid (by rw [E]; rfl)
          clear E
          go_enter Try.func115, Try.ntmps115
          go_wp2_with fail
          refine (HH.out _).mono ?_
          rintro e w' ⟨rfl, rfl⟩
          go_wp2
          go_loopw [13] (fun i wr => ∃ p : Nat, p ≤ s.size + 256 ∧ i = .int .i64 p ∧ jT s.data.toList 0 = jT s.data.toList p ∧ w = wr) (fun i _ => s.size - (intOf i).toNat)
          case atStart => exact ⟨0, by omega, rfl, rfl, rfl⟩
          case round =>
            obtain ⟨p, hp, rfl, hj, rfl⟩ := hrel
            by_cases hlt : p < s.size
            · have q3 : (p : Int) < (s.size : Int) := by omega
              rw [jT_go (p := p) (by rw [← HS.out]; exact hlt), ← get_at s p hlt] at hj
              obtain ⟨c, hc⟩ : ∃ c, s[p].toNat = c := ⟨_, rfl⟩
              have hcb : (c : Int) < 256 := by have := s[p].toNat_lt; omega
              rw [hc] at hj
              have HJ := Lib.hid hj
              clear hj
              go_wp2
              go_roundw
              case rel => exact ⟨p + 1 + c, by omega, by go_num, HJ.out, trivial⟩
              case measure => simp [intOf]; omega
            · have q3 : decide ((p : Int) < (s.size : Int)) = false := by simp; omega
              rw [jT_stop (p := p) (by rw [← HS.out]; exact hlt)] at hj
              have HJ := Lib.hid hj
              have E2 : Hid (txt s.data.toList = decide (0 < p ∧ p = s.size)) := Lib.hid (by unfold txt; rw [HJ.out, ← HS.out])
              clear hj
              by_cases g2 : p = s.size
              · have q4 : ((p : Int) == (s.size : Int)) = true := by simp; omega
                by_cases g1 : 0 < p
                · have q5 : (0 : Int) < (p : Int) := by omega
                  have R : Hid (true = decide (0 < p ∧ p = s.size)) := Lib.hid (by simp [← g2, g1])
                  clear g2
                  go_wp2
                  go_ret
                  exact ⟨ret_b (R.out.trans (E2.out.symm.trans E1.out.symm)), Below.refl _ _⟩
                · have q5 : decide ((0 : Int) < (p : Int)) = false := by simp; omega
                  have R : Hid (false = decide (0 < p ∧ p = s.size)) := Lib.hid (by simp [g1])
                  clear g2
                  go_wp2
                  go_ret
                  exact ⟨ret_b (R.out.trans (E2.out.symm.trans E1.out.symm)), Below.refl _ _⟩
              · have q4 : ((p : Int) == (s.size : Int)) = false := by simp; omega
                have R : Hid (false = decide (0 < p ∧ p = s.size)) := Lib.hid (by simp [g2])
                clear g2
                go_wp2
                go_ret
                exact ⟨ret_b (R.out.trans (E2.out.symm.trans E1.out.symm)), Below.refl _ _⟩
        · have q3 : ((t : Int) == 16) = false := by simp; omega
          have E1 : vld t s.data.toList = true := by rw [E]; unfold plainOk; rw [if_neg g1, if_neg g2, if_neg g3]
          rw [E1]
          clear E E1 g1 g2 g3
          go_enter Try.func115, Try.ntmps115
          go_wp2_with fail
          refine (HH.out _).mono ?_
          rintro e w' ⟨rfl, rfl⟩
          go_wp2
          go_ret
          exact ⟨rfl, Below.refl _ _⟩
set_option maxRecDepth 100000 in
set_option maxHeartbeats 3200000 in
theorem rrcheck_any (r : Rc) (hr : r.Ok) (hn : r.n.size ≤ 1000000) (w : World) :
    Calls Try.prog 97 #[r.v] w fun e w' => e = .returned (.int .i64 (rck r)) ∧ Below w.heap.size w w' := by
  obtain ⟨n, t, c, l, d⟩ := r
  obtain ⟨h1, h2, h3, h4, h5⟩ := hr
  simp only at h1 h2 h3 h4 h5 hn
  have hb := one_box w (.cells #[.string n, .int .u16 (t : Int), .int .u16 (c : Int), .int .u32 (l : Int), .string d] 61)
  have bk := Ce.new w 61 #[.string n, .int .u16 (t : Int), .int .u16 (c : Int), .int .u32 (l : Int), .string d]
  have C := rcheck_any n hn (w.alloc (.cells #[.string n, .int .u16 (t : Int), .int .u16 (c : Int), .int .u32 (l : Int), .string d] 61))
  have HB := Lib.hid hb
  have HK := Lib.hid bk
  have HC := Lib.hid C
  have hdi : (d.size : Int) ≤ 140737488351232 := by omega
  clear hb bk C
  by_cases g1 : chk n.data.toList = 0
  · have q1 : (chk n.data.toList == 0) = true := by simpa using g1
    have q1' : (chk n.data.toList != 0) = false := by simpa using g1
    by_cases g2 : 2000 < d.size
    · have E : Hid (rck ⟨n, t, c, l, d⟩ = 11) := Lib.hid (by unfold rck; rw [if_pos g1, if_pos g2])
      have q2 : (2000 : Int) < (d.size : Int) := by omega
      rw [E.out]
      clear g1
      go_enter Try.func97, Try.ntmps97
      go_wp2_with fail
      refine HC.out.mono ?_
      rintro e w1 ⟨rfl, hb1⟩
      have k1 := (HK.out.below hb1).cell 4
      simp at k1
      have hbb := HB.out.trans (hb1.mono HB.out.size)
      clear hb1
      go_wp2
      go_ret
      exact ⟨rfl, hbb⟩
    · have q2 : decide ((2000 : Int) < (d.size : Int)) = false := by simp; omega
      have V := fun w => rright_any t h3 d (by omega) w
      have E : rck ⟨n, t, c, l, d⟩ = if vld t d.data.toList then 0 else 10 := by unfold rck; rw [if_pos g1, if_neg g2]
      generalize vld t d.data.toList = b at V E
      have HV := Lib.hid V
      have HE := Lib.hid E
      clear V E g1
      cases b with
      | true =>
        rw [HE.out]
        go_enter Try.func97, Try.ntmps97
        go_wp2_with fail
        refine HC.out.mono ?_
        rintro e w1 ⟨rfl, hb1⟩
        have k1 := (HK.out.below hb1).cell 4
        have k2 := (HK.out.below hb1).cell 1
        simp at k1 k2
        have hbb := HB.out.trans (hb1.mono HB.out.size)
        clear hb1
        go_wp2_with fail
        refine (HV.out _).mono ?_
        rintro e w2 ⟨rfl, hb2⟩
        go_wp2
        go_ret
        exact ⟨rfl, hbb.trans (hb2.mono hbb.size)⟩
      | false =>
        rw [HE.out]
        go_enter Try.func97, Try.ntmps97
        go_wp2_with fail
        refine HC.out.mono ?_
        rintro e w1 ⟨rfl, hb1⟩
        have k1 := (HK.out.below hb1).cell 4
        have k2 := (HK.out.below hb1).cell 1
        simp at k1 k2
        have hbb := HB.out.trans (hb1.mono HB.out.size)
        clear hb1
        go_wp2_with fail
        refine (HV.out _).mono ?_
        rintro e w2 ⟨rfl, hb2⟩
        go_wp2
        go_ret
        exact ⟨rfl, hbb.trans (hb2.mono hbb.size)⟩
  · have q1 : (chk n.data.toList == 0) = false := by simpa using g1
    have q1' : (chk n.data.toList != 0) = true := by simpa using g1
    have E : Hid (rck ⟨n, t, c, l, d⟩ = chk n.data.toList) := Lib.hid (by unfold rck; rw [if_neg g1])
    rw [E.out]
    clear g1
    go_enter Try.func97, Try.ntmps97
    go_wp2_with fail
    refine HC.out.mono ?_
    rintro e w1 ⟨rfl, hb1⟩
    have hbb := HB.out.trans (hb1.mono HB.out.size)
    clear hb1
    go_wp2
    go_ret
    exact ⟨rfl, hbb⟩
end Go.Proofs.Ytljfkjbagebncaa
