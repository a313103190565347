/-
  What a packer's learn leaves; all else is as it was.
-/
import Derived.Test.YtflpceaaelampaaPut
namespace Go.Proofs.Ytflpceaaelampaa
open Go.RowKit
open Go.Maps (Keyed)
theorem law9 : Keyed Try.prog 9 := Maps.string_keyed Try.underlying9
theorem zero29 (w : World) : (zeroValue 22).run Try.prog w = .ok (.int .u16 0) w := by kernel_rfl
theorem wf16 {a : Nat} (h : a < 65536) : (Lit.int .u16 (a : Int)).wf = true := by
  simp [Lit.wf, IntKind.min, IntKind.max, IntKind.signed, IntKind.bits]; omega
theorem says_nil : Says (.map []) [] := fun m => ⟨by simp [Maps.has, find], fun a h => by simp [find] at h⟩
theorem says_put {D : DataW Unit} {L : Kn} {n : Bs} {a : Nat} (h : Says D L) (hD : Maps.IsMap D) (hf : find L n = none) : Says (D.put (.string n) (.lit (.int .u16 (a : Int)))) (L ++ [(n, a)]) := by
  intro m
  by_cases e : n = m
  · subst e
    have hk : WideAt.IsKeyLit (.string n) := trivial
    rw [find_snoc, hf]
    refine ⟨by rw [Maps.has_put_same hD hk]; simp, fun b hb => ?_⟩
    have : a = b := by simpa using hb
    subst this
    exact Maps.atKey_put_same hD hk _ _
  · have hne : Lit.string m ≠ Lit.string n := fun h => e (by injection h with h; exact h.symm)
    have e2 : find (L ++ [(n, a)]) m = find L m := by
      rw [find_snoc]
      cases find L m with
      | some b => rfl
      | none => simp [e]
    rw [e2, Maps.has_put_other hne, Maps.atKey_put_other hne]
    exact h m
theorem look_yes {w : World} {mb n a : Nat} {L : Kn} (h : Mp w mb n L) (s : ByteArray) (hs : s.size ≤ maxLen) (hf : find L s.data.toList = some a) :
    (Instr.lookup 93 (.map (some mb)) (.string s) true).run Try.prog w = .ok (.tuple #[.int .u16 (a : Int), .bool true]) w := by
  obtain ⟨D, ho, hsay⟩ := h
  obtain ⟨v, ps, hr, hv⟩ := ho.look_ok law9 Try.underlying93 (zero29 w) (plainElem_int Try.underlying22 (wf16 (a := 0) (by decide))) (WideMaps.keyOf_string_mk Try.underlying9 hs)
  obtain ⟨h1, h2⟩ := hsay s.data.toList
  rw [h2 a hf] at hv
  obtain ⟨c, rfl, hc, _⟩ := plainElem_int_inv Try.underlying22 hv
  have : (a : Int) = c := by simp at hc; exact hc.1
  rw [hr, h1, hf, this]; rfl
theorem look_no {w : World} {mb n : Nat} {L : Kn} (h : Mp w mb n L) (s : ByteArray) (hs : s.size ≤ maxLen) (hf : find L s.data.toList = none) :
    (Instr.lookup 93 (.map (some mb)) (.string s) true).run Try.prog w = .ok (.tuple #[.int .u16 0, .bool false]) w := by
  obtain ⟨D, ho, hsay⟩ := h
  obtain ⟨v, ps, hr, hv⟩ := ho.look_ok law9 Try.underlying93 (zero29 w) (plainElem_int Try.underlying22 (wf16 (a := 0) (by decide))) (WideMaps.keyOf_string_mk Try.underlying9 hs)
  obtain ⟨h1, h2⟩ := hsay s.data.toList
  rw [hf] at h1
  have h3 : Maps.has D (.string s.data.toList) = false := h1
  rw [Maps.atKey_of_not_has h3] at hv
  obtain ⟨c, rfl, hc, _⟩ := plainElem_int_inv Try.underlying22 hv
  have : (0 : Int) = c := by simp at hc; exact hc.1
  rw [hr, h3, ← this]
theorem look_none (w : World) (s : ByteArray) (hs : s.size ≤ maxLen) : (Instr.lookup 93 (.map none) (.string s) true).run Try.prog w = .ok (.tuple #[.int .u16 0, .bool false]) w :=
  Maps.look_nil true law9 Try.underlying93 (zero29 w) (WideMaps.keyOf_string_mk Try.underlying9 hs)
theorem more_far {B : Bs} {L : Kn} {n : Bs} (h : ¬ B.length < 16384) : more B L n = L := by unfold more; rw [if_neg h]
theorem more_near {B : Bs} {L : Kn} {n : Bs} (h : B.length < 16384) : more B L n = L ++ [(n, B.length)] := by unfold more; rw [if_pos h]
/-- Where the map grows: what is left. -/
theorem PV.learnt {S : Nat → Prop} {b mb : Nat} {B : Bs} {L : Kn} {sv : Value} {w w1 : World} {D : DataW Unit} {n : Bs} (h : PV S b B L sv (.map (some mb)) w) (hs : Says D L)
    (ho : Mo w1 mb (L.length + 1) (D.put (.string n) (.lit (.int .u16 (B.length : Int))))) (hg : w.grownBy w1 (some mb)) (hm : S mb) (hmp : Mp w mb L.length L) (hf : find L n = none) (hD : Maps.IsMap D) :
    Lft S b B (L ++ [(n, B.length)]) w w1 := by
  refine ⟨⟨sv, .map (some mb), ⟨h.blk.kept hg (fun e => hmp.not_blk h.blk (by simpa using e.symm)), ?_, fun k hk => .inl (h.rowS k hk), .inl h.own, ?_⟩⟩, (Tr.refl _ _).grown hg (fun k hk => by cases hk; exact .inl hm)⟩
  · exact h.row.kept hg (.inr (fun e => hmp.not_row h.row e.symm))
  · refine .inr ⟨mb, rfl, .inl hm, ?_⟩
    rw [List.length_append]
    exact ⟨_, ho, says_put hs hD hf⟩
theorem eqlSome (mb : Nat) (w : World) : (binOp .eql 93 (.map (some mb)) (.map none)).run Try.prog w = .ok (.bool false) w := by kernel_rfl
theorem eqlNil (w : World) : (binOp .eql 93 (.map none) (.map none)).run Try.prog w = .ok (.bool true) w := by kernel_rfl
set_option maxRecDepth 100000 in
set_option maxHeartbeats 1600000 in
theorem learn_far (s : ByteArray) (S : Nat → Prop) (b : Nat) (B : Bs) (L : Kn) (w : World) (h : PK S b B L w) (hB : ¬ B.length < 16384) (hB2 : B.length ≤ 1000000) :
    Calls Try.prog 71 #[ptr b, .string s] w fun e w' => (∃ v, e = .returned v) ∧ Lft S b B (more B L s.data.toList) w w' := by
  rw [more_far hB]
  obtain ⟨sv, mv, hp⟩ := h
  have c0 := hp.blk.cell0
  obtain ⟨a, cap, rfl⟩ := row_slice hp.row
  have HP : Hid (PK S b B L w) := Lib.hid ⟨_, _, hp⟩
  obtain ⟨n, hn⟩ : ∃ n, n = B.length := ⟨_, rfl⟩
  rw [← hn] at hB hB2 c0
  have q : (16384 : Int) ≤ (n : Int) := by omega
  clear hp hn
  go_enter Try.func71, Try.ntmps71
  go_wp2
  refine bodyPost_ret (results_none rfl _ _ _) rfl ?_
  exact ⟨⟨_, rfl⟩, Lft.refl HP.out⟩
set_option maxRecDepth 100000 in
set_option maxHeartbeats 1600000 in
theorem learn_some (s : ByteArray) (hs : s.size ≤ maxLen) (S : Nat → Prop) (b mb : Nat) (B : Bs) (L : Kn) (sv : Value) (w : World) (hp : PV S b B L sv (.map (some mb)) w) (hm : S mb) (hmp : Mp w mb L.length L) (hB : B.length < 16384) (hL : L.length ≤ 1000000) (hf : find L s.data.toList = none) :
    Calls Try.prog 71 #[ptr b, .string s] w fun e w' => (∃ v, e = .returned v) ∧ Lft S b B (L ++ [(s.data.toList, B.length)]) w w' := by
  have c0 := hp.blk.cell0
  have c1 := hp.blk.cell1
  obtain ⟨a, cap, rfl⟩ := row_slice hp.row
  have HP := Lib.hid hp
  obtain ⟨D, hown, hsay⟩ := hmp
  have HM := Lib.hid (⟨D, hown, hsay⟩ : Mp w mb L.length L)
  have HO := Lib.hid hown
  have HS := Lib.hid hsay
  have HD := Lib.hid hown.isMap
  have HF := Lib.hid hf
  obtain ⟨n, hn⟩ : ∃ n, n = B.length := ⟨_, rfl⟩
  have HN := Lib.hid hn
  rw [← hn] at hB c0
  have q : (n : Int) < 16384 := by omega
  clear hp hn hown hsay hf
  have he := eqlSome mb
  have q' : decide ((16384 : Int) ≤ (n : Int)) = false := by simp; omega
  have x1 : IntKind.u16.wrap (n : Int) = (n : Int) := by simp [IntKind.wrap, IntKind.bits, IntKind.signed]; omega
  go_enter Try.func71, Try.ntmps71
  go_wp2
  go_still_tail 11, (by kernel_rfl)
  change wpList _ _ _ _ _ w.drew
  go_wp2_with (at_mapUpdate; refine wpList_mapUpdate_own _ rfl (.tmp 22) (.tmp 23) (.tmp 29) 93 rfl 9 22 law9 Try.underlying93 _ mb L.length D rfl HO.out.drew (by unfold maxLen; omega) _ _ (.string s.data.toList) rfl rfl (WideMaps.keyOf_string_mk Try.underlying9 hs) (.lit (.int .u16 (n : Int))) [] (plainElem_int Try.underlying22 (wf16 (by omega))) ?_)
  intro w1 hown1 hgrow1
  have A := Lib.hid (HP.out.learnt (n := s.data.toList) (w1 := w1) HS.out (by rw [← HN.out]; exact hown1) ⟨hgrow1.os, hgrow1.tape, hgrow1.output, hgrow1.size, hgrow1.block⟩ hm HM.out HF.out HD.out)
  clear hown1 hgrow1 c0 c1
  go_wp2
  go_end0
  exact ⟨⟨_, rfl⟩, A.out⟩
/-- The packer behind its first map. -/
theorem PV.mapped {S : Nat → Prop} {b : Nat} {B : Bs} {sv mv : Value} {w : World} (h : PV S b B [] sv mv w) :
    PV (andNew S w.heap.size) b B [] sv (.map (some w.heap.size)) ((w.setCell ⟨b, 1, none⟩ (.map (some w.heap.size))).alloc (.map #[] 0)) ∧ Tr S w ((w.setCell ⟨b, 1, none⟩ (.map (some w.heap.size))).alloc (.map #[] 0)) ∧
      Mo ((w.setCell ⟨b, 1, none⟩ (.map (some w.heap.size))).alloc (.map #[] 0)) w.heap.size 0 (.map []) := by
  have hm := World.ownsMap_made (w.setCell ⟨b, 1, none⟩ (.map (some w.heap.size))) Try.prog 9 (plainElem (H := Unit) Try.prog 22)
  rw [World.size_setCell] at hm
  refine ⟨⟨(h.blk.set1 _).tr ((Tr.refl (fun _ => False) _).alloc _) (fun h => h), (h.blk.row h.row (by decide) 1).alloc _, fun k hk => .inl (h.rowS k hk), .inl h.own, .inr ⟨_, rfl, .inr (Nat.le_refl _), ⟨_, hm, says_nil⟩⟩⟩, ((Tr.refl _ _).setCell (.inl h.own) _).alloc _, hm⟩
set_option maxRecDepth 100000 in
set_option maxHeartbeats 1600000 in
theorem learn_nil (s : ByteArray) (hs : s.size ≤ maxLen) (S : Nat → Prop) (b : Nat) (B : Bs) (sv : Value) (w : World) (hp : PV S b B [] sv (.map none) w) (hB : B.length < 16384) :
    Calls Try.prog 71 #[ptr b, .string s] w fun e w' => (∃ v, e = .returned v) ∧ Lft S b B [(s.data.toList, B.length)] w w' := by
  have c0 := hp.blk.cell0
  have c1 := hp.blk.cell1
  have f1 := hp.blk.frozen1
  obtain ⟨a, cap, rfl⟩ := row_slice hp.row
  have hb := hp.blk.lt
  have HP := Lib.hid hp.mapped
  obtain ⟨n, hn⟩ : ∃ n, n = B.length := ⟨_, rfl⟩
  have HN := Lib.hid hn
  rw [← hn] at hB c0
  have q : (n : Int) < 16384 := by omega
  have he := eqlNil
  have hmm := @run_makeMap Try.prog
  have q' : decide ((16384 : Int) ≤ (n : Int)) = false := by simp; omega
  have x1 : IntKind.u16.wrap (n : Int) = (n : Int) := by simp [IntKind.wrap, IntKind.bits, IntKind.signed]; omega
  clear hp hn
  go_enter Try.func71, Try.ntmps71
  go_wp2
  change Code.wp _ _ _ _ ((w.setCell ⟨b, 1, none⟩ (.map (some w.heap.size))).alloc (.map #[] 0))
  obtain ⟨w2, hw2⟩ : ∃ w2, w2 = (w.setCell ⟨b, 1, none⟩ (.map (some w.heap.size))).alloc (.map #[] 0) := ⟨_, rfl⟩
  rw [← hw2]
  have HP2 : Hid (PV (andNew S w.heap.size) b B [] (.slice a B.length cap) (.map (some w.heap.size)) w2 ∧ Tr S w w2 ∧ Mo w2 w.heap.size 0 (.map [])) := Lib.hid (by rw [hw2]; exact HP.out)
  have d0 := HP2.out.1.blk.cell0
  have d1 := HP2.out.1.blk.cell1
  rw [← HN.out] at d0
  clear hw2 c0 c1 f1 hmm he HP
  obtain ⟨mb, hmb⟩ : ∃ mb, mb = w.heap.size := ⟨_, rfl⟩
  rw [← hmb] at d1
  have HMB := Lib.hid hmb
  clear hmb
  go_still_tail 11, (by kernel_rfl)
  change wpList _ _ _ _ _ w2.drew
  go_wp2_with (at_mapUpdate; refine wpList_mapUpdate_own _ rfl (.tmp 22) (.tmp 23) (.tmp 29) 93 rfl 9 22 law9 Try.underlying93 _ mb 0 (.map []) rfl (by rw [HMB.out]; exact HP2.out.2.2.drew) (by unfold maxLen; omega) _ _ (.string s.data.toList) rfl rfl (WideMaps.keyOf_string_mk Try.underlying9 hs) (.lit (.int .u16 (n : Int))) [] (plainElem_int Try.underlying22 (wf16 (by omega))) ?_)
  intro w1 hown1 hgrow1
  have A := Lib.hid (HP2.out.1.learnt (n := s.data.toList) (w1 := w1) says_nil (by rw [← HN.out, ← HMB.out]; exact hown1) (by rw [← HMB.out]; exact ⟨hgrow1.os, hgrow1.tape, hgrow1.output, hgrow1.size, hgrow1.block⟩) (.inr (Nat.le_refl _)) ⟨_, HP2.out.2.2, says_nil⟩ rfl Maps.isMap_empty)
  clear hown1 hgrow1 d0 d1
  go_wp2
  go_end0
  exact ⟨⟨_, rfl⟩, Lft.trans ⟨⟨_, _, HP2.out.1⟩, HP2.out.2.1⟩ A.out⟩
/-- WHAT LEARN LEAVES. -/
theorem learn_any (s : ByteArray) (hs : s.size ≤ 1000000) (S : Nat → Prop) (b : Nat) (B : Bs) (L : Kn) (w : World) (h : PK S b B L w) (hB : B.length ≤ 1000000) (hL : L.length ≤ 1000000) (hf : find L s.data.toList = none) :
    Calls Try.prog 71 #[ptr b, .string s] w fun e w' => (∃ v, e = .returned v) ∧ Lft S b B (more B L s.data.toList) w w' := by
  by_cases hn : B.length < 16384
  · rw [more_near hn]
    obtain ⟨sv, mv, hp⟩ := h
    rcases hp.map with ⟨rfl, rfl⟩ | ⟨mb, rfl, hm, hmp⟩
    · exact learn_nil s (by unfold maxLen; omega) S b B sv w hp hn
    · exact learn_some s (by unfold maxLen; omega) S b mb B L sv w hp hm hmp hn hL hf
  · exact learn_far s S b B L w h hn hB
end Go.Proofs.Ytflpceaaelampaa
