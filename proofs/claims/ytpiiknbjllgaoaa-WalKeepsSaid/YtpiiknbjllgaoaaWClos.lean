/-
  The operations of a log, one after the other: what each one leaves, and what is left where one fails.
-/
import Derived.Test.YtpiiknbjllgaoaaWAll
namespace Go.Proofs.Ytpiiknbjllgaoaa
open Go.RowKit
set_option maxRecDepth 100000 in
set_option maxHeartbeats 1600000 in
theorem inTurn_any (F : List Tst) (g n cap : Nat) (hn : n = F.length) (hB : n ≤ 10) (w : World) (K : Nat → World → Prop) (Z : Int → World → Prop)
    (hc : ∀ (k : Nat) (t : Tst) w1, F[k]? = some t → K k w1 → w1.cell? ⟨g, k, none⟩ = some t.val)
    (hN : ∀ (k : Nat) (t : Tst), F[k]? = some t → ∀ args w, (callFunc t.N args).run Try.prog w = .ok (.enter t.N args) w)
    (hcall : ∀ (k : Nat) (t : Tst) w1, F[k]? = some t → K k w1 → Calls Try.prog t.N (t.fs ++ t.cs) w1 fun e w2 => (e = .returned (.int .i64 0) ∧ K (k + 1) w2) ∨ ∃ z, z ≠ 0 ∧ e = .returned (.int .i64 z) ∧ Z z w2)
    (h0 : K 0 w) :
    Calls Try.prog 41 #[.slice (some ⟨g, 0, none⟩) n cap] w fun e w' => (e = .returned (.int .i64 0) ∧ K n w') ∨ ∃ z, z ≠ 0 ∧ e = .returned (.int .i64 z) ∧ Z z w' := by
  have HC := Lib.hid hc
  have HN := Lib.hid hN
  have HL := Lib.hid hcall
  have H0 := Lib.hid h0
  have HE := Lib.hid hn
  clear hc hN hcall h0 hn
  go_enter Try.func41, Try.ntmps41
  go_wp2
  go_loopw [5, 8] (fun _ i wr => ∃ k : Nat, k ≤ n ∧ i = .int .i64 (k : Int) ∧ K k wr) (fun _ i _ => n - (intOf i).toNat)
  case atStart => exact ⟨0, by omega, rfl, H0.out⟩
  case round =>
    obtain ⟨k, hk, rfl, hK⟩ := hrel
    by_cases hlt : k < n
    · have q1 : (k : Int) < (n : Int) := by omega
      obtain ⟨t, ht⟩ : ∃ t, F[k]? = some t := ⟨_, List.getElem?_eq_getElem (by rw [← HE.out]; exact hlt)⟩
      have c0 := HC.out k t _ ht hK
      have hN := HN.out k t ht
      have HLL := Lib.hid (HL.out k t _ ht hK)
      obtain ⟨N, fs, cs⟩ := t
      clear hK ht
      go_wp2_with fail
      refine HLL.out.mono ?_
      rintro e w2 (⟨rfl, hk2⟩ | ⟨z, hz, rfl, hz2⟩)
      · have HK2 := Lib.hid hk2
        clear hk2
        go_wp2
        go_roundw
        case rel => exact ⟨k + 1, by omega, by go_num, HK2.out⟩
        case measure => simp [intOf]; omega
      · have HZ := Lib.hid hz2
        have q2 : (z == 0) = false := by simpa using hz
        have q3 : (z != 0) = true := by simpa using hz
        clear hz2
        go_wp2
        go_ret
        exact .inr ⟨z, hz, rfl, HZ.out⟩
    · have q1 : decide ((k : Int) < (n : Int)) = false := by simp; omega
      obtain rfl : k = n := by omega
      have HK := Lib.hid hK
      clear hK
      go_wp2
      go_ret
      exact .inl ⟨rfl, HK.out⟩
theorem mem_names (x : Ld) (i : Bool) {l : List ByteArray} (h : l.Perm (x.dk.fs.map Fl.name)) : (x.get i).isSome = true ↔ nmOf i ∈ l := by
  rw [h.mem_iff]
  obtain ⟨lo, nw, room, steps, left, off, sch⟩ := x
  cases i <;> cases lo <;> cases nw <;> simp [Ld.dk, Ld.fs, nmOf, Ld.get, names_ne, names_ne']
theorem names_few (x : Ld) {l : List ByteArray} (h : l.Perm (x.dk.fs.map Fl.name)) : l.length ≤ 2 := by
  rw [h.length_eq, List.length_map]
  obtain ⟨lo, nw, room, steps, left, off, sch⟩ := x
  cases lo <;> cases nw <;> simp [Ld.dk, Ld.fs]
set_option maxRecDepth 100000 in
set_option maxHeartbeats 3200000 in
theorem whas_any {S : Nat → Prop} {b : Nat} {x : Ld} {w : World} (h : PD S b x.dk w) (i : Bool) :
    Calls Try.prog 39 #[ptr b, .string (nmOf i)] w fun e w' => e = .returned (.bool (x.get i).isSome) ∧ Below w.heap.size w w' := by
  have HN := Lib.hid (names_any h (fs_len x))
  obtain ⟨nm, hnm⟩ : ∃ nm, nm = nmOf i := ⟨_, rfl⟩
  have HNM := Lib.hid hnm
  rw [← hnm]
  obtain ⟨R, hR⟩ : ∃ R, R = (x.get i).isSome := ⟨_, rfl⟩
  have HR := Lib.hid hR
  rw [← hR]
  clear hnm hR h
  go_enter Try.func39, Try.ntmps39
  go_wp2_with fail
  refine HN.out.mono ?_
  rintro e w1 ⟨v, l, rfl, hrd, hperm, _, hb1⟩
  have HM : Hid (R = true ↔ nm ∈ l) := Lib.hid (by rw [HR.out, HNM.out]; exact mem_names x i hperm)
  have hl2 := names_few x hperm
  have HB1 := Lib.hid hb1
  obtain ⟨a, ca, rfl, ha1, ha2, ha3⟩ := hrd.cells
  have HA := Lib.hid (fun k s => ha3 w1 (Below.refl _ _) k s)
  obtain ⟨n, hn⟩ : ∃ n, n = l.length := ⟨_, rfl⟩
  have HNN := Lib.hid hn
  rw [← hn] at hl2 ha1 ⊢
  clear hrd hperm hb1 ha3 hn
  go_wp2
  go_loopw [6, 10] (fun _o i wr => ∃ k : Nat, k ≤ n ∧ i = .int .i64 (k : Int) ∧ (∀ s ∈ l.take k, s ≠ nm) ∧ w1 = wr) (fun _ i _ => n - (intOf i).toNat)
  case atStart => exact ⟨0, by omega, rfl, fun s hs => by simp at hs, rfl⟩
  case round =>
    obtain ⟨k, hk, rfl, hne, rfl⟩ := hrel
    have HNE := Lib.hid hne
    clear hne
    by_cases hlt : k < n
    · have q : (k : Int) < (n : Int) := by omega
      obtain ⟨s, hs⟩ : ∃ s, l[k]? = some s := ⟨_, List.getElem?_eq_getElem (by rw [← HNN.out]; exact hlt)⟩
      obtain ⟨g, o, rfl, c1⟩ := HA.out k s hs
      by_cases he : s = nm
      · subst he
        have HF : Hid (R = true) := Lib.hid (HM.out.2 (List.mem_of_getElem? hs))
        clear hs
        go_wp2
        go_ret
        exact ⟨ret_bool HF.out.symm, HB1.out⟩
      · have q3 := tl_ne he
        have HK : Hid (∀ t ∈ l.take (k + 1), t ≠ nm) := Lib.hid (by
          obtain ⟨a1, b1⟩ := List.getElem?_eq_some_iff.1 hs
          rw [List.take_succ_eq_append_getElem a1, b1]
          intro t ht
          rcases List.mem_append.1 ht with ht | ht
          · exact HNE.out t ht
          · simp at ht; subst ht; exact he)
        clear hs
        go_wp2
        go_roundw
        case rel => exact ⟨k + 1, by omega, by go_num, HK.out, trivial⟩
        case measure => simp [intOf]; omega
    · have q : decide ((k : Int) < (n : Int)) = false := by simp; omega
      have hkn : k = n := by omega
      have HF : Hid (R = false) := Lib.hid (by
        rw [← Bool.not_eq_true, HM.out]
        intro hm
        exact HNE.out nm (by rw [List.take_of_length_le (by rw [← HNN.out]; omega)]; exact hm) rfl)
      go_wp2
      go_ret
      exact ⟨ret_bool HF.out.symm, HB1.out⟩
/-- What is about to replace the log goes. -/
def Ld.disE (x : Ld) : Int := if x.nw.isSome then x.E (x.has true) else 0
def Ld.dis (x : Ld) : Ld := if x.nw.isSome then x.rem true else x
theorem Lft.of_below {S : Nat → Prop} {b : Nat} {d : Dk} {w w' : World} (h : PD S b d w) (hb : Below w.heap.size w w') : Lft S b d w w' := ⟨(h.below hb).mono fun _ => .inl, Tr.of_below hb⟩
theorem Lft.behind {S : Nat → Prop} {b : Nat} {d : Dk} {w w1 w' : World} (hb : Below w.heap.size w w1) (h : Lft S b d w1 w') : Lft S b d w w' := ⟨h.1.mono fun _ hk => hk.imp id fun e => Nat.le_trans hb.size e, (Tr.of_below hb).then h.2⟩
set_option maxRecDepth 100000 in
set_option maxHeartbeats 1600000 in
theorem dis_any {S : Nat → Prop} {b B : Nat} {x : Ld} {w : World} (h : PD S b x.dk w) (ok : x.Ok) (hB : w.cell? ⟨B, 0, none⟩ = some (ptr b)) :
    Calls Try.prog 63 #[ptr B] w fun e w' => e = .returned (.int .i64 x.disE) ∧ Lft S b x.dis.dk w w' := by
  have HH := Lib.hid (whas_any h true)
  have HP := Lib.hid h
  have HRM := Lib.hid (fun w' (hb : Below w.heap.size w w') => lrem_any (h.below hb) ok true)
  clear h
  have hd : x.get true = x.nw := rfl
  rw [hd] at HH
  unfold Ld.disE Ld.dis
  cases hn : x.nw.isSome with
  | false =>
    rw [hn] at HH
    go_enter Try.func63, Try.ntmps63
    go_wp2_with fail
    refine HH.out.mono ?_
    rintro e w1 ⟨rfl, hb⟩
    have HB := Lib.hid hb
    clear hb
    go_wp2
    go_ret
    exact ⟨rfl, Lft.of_below HP.out HB.out⟩
  | true =>
    rw [hn] at HH
    go_enter Try.func63, Try.ntmps63
    go_wp2_with fail
    refine HH.out.mono ?_
    rintro e w1 ⟨rfl, hb⟩
    have HB := Lib.hid hb
    have c1 : w1.cell? ⟨B, 0, none⟩ = some (ptr b) := (hb.cell (w.block_lt_of_cell? _ hB)).trans hB
    clear hb
    go_wp2_with fail
    refine (HRM.out w1 HB.out).mono ?_
    rintro e w2 ⟨rfl, hl⟩
    have HL := Lib.hid hl
    clear hl
    go_wp2
    go_ret
    exact ⟨rfl, HL.out.behind HB.out⟩
theorem ent63 (args : Array Value) (w : World) : (callFunc 63 args).run Try.prog w = .ok (.enter 63 args) w := enters Try.func63 (by kernel_rfl) (by kernel_rfl) args w
theorem ent68 (args : Array Value) (w : World) : (callFunc 68 args).run Try.prog w = .ok (.enter 68 args) w := enters Try.func68 (by kernel_rfl) (by kernel_rfl) args w
theorem ent65 (args : Array Value) (w : World) : (callFunc 65 args).run Try.prog w = .ok (.enter 65 args) w := enters Try.func65 (by kernel_rfl) (by kernel_rfl) args w
theorem ent44 (args : Array Value) (w : World) : (callFunc 44 args).run Try.prog w = .ok (.enter 44 args) w := enters Try.func44 (by kernel_rfl) (by kernel_rfl) args w
theorem ent34 (args : Array Value) (w : World) : (callFunc 34 args).run Try.prog w = .ok (.enter 34 args) w := enters Try.func34 (by kernel_rfl) (by kernel_rfl) args w
theorem ent36 (args : Array Value) (w : World) : (callFunc 36 args).run Try.prog w = .ok (.enter 36 args) w := enters Try.func36 (by kernel_rfl) (by kernel_rfl) args w
set_option maxRecDepth 100000 in
set_option maxHeartbeats 1600000 in
theorem wri_any {S : Nat → Prop} {b B C D : Nat} {x : Ld} {w : World} (h : PD S b x.dk w) (ok : x.Ok) (i : Bool) (s : ByteArray) (hs : s.size ≤ 1000000) (hB : w.cell? ⟨B, 0, none⟩ = some (ptr b)) (hC : w.cell? ⟨C, 0, none⟩ = some (.string (nmOf i))) (hD : w.cell? ⟨D, 0, none⟩ = some (.string s)) :
    Calls Try.prog 68 #[ptr B, ptr C, ptr D] w fun e w' => e = .returned (.int .i64 (x.E (x.fit s.size))) ∧ Lft S b (x.app i s.data.toList).dk w w' := by
  have HL := Lib.hid (lapp_any h ok i s hs)
  clear h
  obtain ⟨nm, hnm⟩ : ∃ nm, nm = nmOf i := ⟨_, rfl⟩
  rw [← hnm] at HL hC
  clear hnm
  go_enter Try.func68, Try.ntmps68
  go_wp2_with fail
  refine HL.out.mono ?_
  rintro e w1 ⟨rfl, hl⟩
  have HL1 := Lib.hid hl
  clear hl
  go_wp2
  go_ret
  exact ⟨rfl, HL1.out⟩
set_option maxRecDepth 100000 in
set_option maxHeartbeats 1600000 in
theorem syn_any {S : Nat → Prop} {b B C : Nat} {x : Ld} {w : World} (h : PD S b x.dk w) (ok : x.Ok) (i : Bool) (hB : w.cell? ⟨B, 0, none⟩ = some (ptr b)) (hC : w.cell? ⟨C, 0, none⟩ = some (.string (nmOf i))) :
    Calls Try.prog 65 #[ptr B, ptr C] w fun e w' => e = .returned (.int .i64 (x.E (x.has i))) ∧ Lft S b (x.syn i).dk w w' := by
  have HL := Lib.hid (lsync_any h ok i)
  clear h
  obtain ⟨nm, hnm⟩ : ∃ nm, nm = nmOf i := ⟨_, rfl⟩
  rw [← hnm] at HL hC
  clear hnm
  go_enter Try.func65, Try.ntmps65
  go_wp2_with fail
  refine HL.out.mono ?_
  rintro e w1 ⟨rfl, hl⟩
  have HL1 := Lib.hid hl
  clear hl
  go_wp2
  go_ret
  exact ⟨rfl, HL1.out⟩
set_option maxRecDepth 100000 in
set_option maxHeartbeats 1600000 in
theorem ren_any {S : Nat → Prop} {b B : Nat} {x : Ld} {w : World} (h : PD S b x.dk w) (ok : x.Ok) (hB : w.cell? ⟨B, 0, none⟩ = some (ptr b)) :
    Calls Try.prog 44 #[ptr B] w fun e w' => e = .returned (.int .i64 (x.E (x.has true))) ∧ Lft S b x.ren.dk w w' := by
  have HL := Lib.hid (lren_any h ok)
  clear h
  go_enter Try.func44, Try.ntmps44
  go_wp2_with fail
  refine HL.out.mono ?_
  rintro e w1 ⟨rfl, hl⟩
  have HL1 := Lib.hid hl
  clear hl
  go_wp2
  go_ret
  exact ⟨rfl, HL1.out⟩
end Go.Proofs.Ytpiiknbjllgaoaa
