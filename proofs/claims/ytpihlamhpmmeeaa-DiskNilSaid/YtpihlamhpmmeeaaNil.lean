/-
  Of no disk nothing comes.
-/
import Derived.Test.YtpihlamhpmmeeaaSync
namespace Go.Proofs.Ytpihlamhpmmeeaa
open Go.RowKit
theorem ent43 (args : Array Value) (w : World) : (callFunc 43 args).run Try.prog w = .ok (.enter 43 args) w := enters Try.func43 (by kernel_rfl) (by kernel_rfl) args w
theorem four_nil (t2 t3 t4 : Tst) (w : World) (h2 : ∀ args w, (callFunc t2.N args).run Try.prog w = .ok (.enter t2.N args) w) (h3 : ∀ args w, (callFunc t3.N args).run Try.prog w = .ok (.enter t3.N args) w) (h4 : ∀ args w, (callFunc t4.N args).run Try.prog w = .ok (.enter t4.N args) w) :
    Calls Try.prog 25 #[.slice (some ⟨w.heap.size, 0, none⟩) 4 4] (w.alloc (.cells #[.func (.func 26) #[nop] #[], t2.val, t3.val, t4.val] 50)) fun e w' => e = .returned (.int .i64 14) ∧ Below w.heap.size w w' := by
  refine (pre_nil [t2, t3, t4] 4 rfl (by decide) w.heap.size (by simp) (fun t ht => ?_)).mono ?_
  · simp at ht
    rcases ht with rfl | rfl | rfl <;> assumption
  · rintro e w' ⟨rfl, rfl⟩
    exact ⟨rfl, (Below.refl _ _).alloc (Nat.le_refl _) _⟩
theorem three_nil (t2 t3 : Tst) (w : World) (h2 : ∀ args w, (callFunc t2.N args).run Try.prog w = .ok (.enter t2.N args) w) (h3 : ∀ args w, (callFunc t3.N args).run Try.prog w = .ok (.enter t3.N args) w) :
    Calls Try.prog 25 #[.slice (some ⟨w.heap.size, 0, none⟩) 3 3] (w.alloc (.cells #[.func (.func 26) #[nop] #[], t2.val, t3.val] 50)) fun e w' => e = .returned (.int .i64 14) ∧ Below w.heap.size w w' := by
  refine (pre_nil [t2, t3] 3 rfl (by decide) w.heap.size (by simp) (fun t ht => ?_)).mono ?_
  · simp at ht
    rcases ht with rfl | rfl <;> assumption
  · rintro e w' ⟨rfl, rfl⟩
    exact ⟨rfl, (Below.refl _ _).alloc (Nat.le_refl _) _⟩
theorem five_nil (t2 t3 t4 t5 : Tst) (w : World) (h2 : ∀ args w, (callFunc t2.N args).run Try.prog w = .ok (.enter t2.N args) w) (h3 : ∀ args w, (callFunc t3.N args).run Try.prog w = .ok (.enter t3.N args) w) (h4 : ∀ args w, (callFunc t4.N args).run Try.prog w = .ok (.enter t4.N args) w) (h5 : ∀ args w, (callFunc t5.N args).run Try.prog w = .ok (.enter t5.N args) w) :
    Calls Try.prog 25 #[.slice (some ⟨w.heap.size, 0, none⟩) 5 5] (w.alloc (.cells #[.func (.func 26) #[nop] #[], t2.val, t3.val, t4.val, t5.val] 50)) fun e w' => e = .returned (.int .i64 14) ∧ Below w.heap.size w w' := by
  refine (pre_nil [t2, t3, t4, t5] 5 rfl (by decide) w.heap.size (by simp) (fun t ht => ?_)).mono ?_
  · simp at ht
    rcases ht with rfl | rfl | rfl | rfl <;> assumption
  · rintro e w' ⟨rfl, rfl⟩
    exact ⟨rfl, (Below.refl _ _).alloc (Nat.le_refl _) _⟩
theorem named_nk (v : Value) (w : World) (hv : ∃ a n cap, v = .slice a n cap) : Calls Try.prog 27 #[v] w fun e w' => (∃ C, e = .returned (.func (.func 38) #[] #[ptr C])) ∧ Below w.heap.size w w' := by
  refine (named_wk v w hv).mono ?_
  rintro e w' ⟨rfl, _, h⟩
  exact ⟨⟨_, rfl⟩, h⟩
theorem fits_nk (n : Nat) (w : World) : Calls Try.prog 28 #[nop, .int .i64 (n : Int)] w fun e w' => (∃ C D, e = .returned (.func (.func 39) #[] #[ptr C, ptr D])) ∧ Below w.heap.size w w' := by
  refine (fits_wk nop (.inl rfl) n w).mono ?_
  rintro e w' ⟨rfl, _, _, h⟩
  exact ⟨⟨_, _, rfl⟩, h⟩
theorem has_nk (k : ByteArray) (w : World) : Calls Try.prog 31 #[nop, .string k] w fun e w' => (∃ C D, e = .returned (.func (.func 40) #[] #[ptr C, ptr D])) ∧ Below w.heap.size w w' := by
  refine (has_wk nop (.inl rfl) k w).mono ?_
  rintro e w' ⟨rfl, _, _, h⟩
  exact ⟨⟨_, _, rfl⟩, h⟩
set_option maxRecDepth 100000 in
set_option maxHeartbeats 1600000 in
theorem reaches_nk (k : ByteArray) (n : Int) (w : World) : Calls Try.prog 34 #[nop, .string k, .int .i64 n] w fun e w' => (∃ C, e = .returned (.func (.func 43) #[] C)) ∧ Below w.heap.size w w' := by
  have hmf : ∀ (fn : Fn) (first cap : Array Value) (w : World), (Instr.makeFunc fn first cap).run Try.prog w = .ok (.func fn first cap) w := fun _ _ _ _ => rfl
  have HB : Hid (Below w.heap.size w (((w.alloc (.cells #[nop] 26)).alloc (.cells #[.string k] 9)).alloc (.cells #[.int .i64 n] 3))) := Lib.hid ((((Below.refl _ _).alloc (Nat.le_refl _) _).alloc (by simp) _).alloc (by simp; omega) _)
  go_enter Try.func34, Try.ntmps34
  go_wp2
  go_ret
  exact ⟨⟨_, rfl⟩, HB.out⟩
theorem one_cell (w : World) (o : Obj) : Hid (Below w.heap.size w (w.alloc o)) := Lib.hid ((Below.refl _ _).alloc (Nat.le_refl _) _)
theorem two_more {n : Nat} {w w1 w2 : World} (h : Below n w w1) (h2 : Below w1.heap.size w1 w2) (hn : n ≤ w1.heap.size) : Below n w w2 := h.trans (h2.mono hn)
set_option maxRecDepth 100000 in
set_option maxHeartbeats 3200000 in
theorem append_nil (k s : ByteArray) (w : World) : Calls Try.prog 11 #[nop, .string k, .string s] w fun e w' => e = .returned (.int .i64 14) ∧ Below w.heap.size w w' := by
  have hmf : ∀ (fn : Fn) (first cap : Array Value) (w : World), (Instr.makeFunc fn first cap).run Try.prog w = .ok (.func fn first cap) w := fun _ _ _ _ => rfl
  have H0 := one_cell w (.cells #[.string k] 9)
  go_enter Try.func11, Try.ntmps11
  go_wp2_with fail
  refine (named_nk _ _ ⟨_, _, _, rfl⟩).mono ?_
  rintro e w2 ⟨⟨C, rfl⟩, hb2⟩
  have H2 := Lib.hid (two_more H0.out hb2 H0.out.size)
  clear hb2
  go_wp2_with fail
  refine (fits_nk s.size w2).mono ?_
  rintro e w3 ⟨⟨C3, D3, rfl⟩, hb3⟩
  have H3 := Lib.hid (two_more H2.out hb3 H2.out.size)
  clear hb3
  go_wp2_with fail
  refine (four_nil (tNam C) ⟨39, #[], #[ptr C3, ptr D3]⟩ ⟨29, #[nop], #[]⟩ w3 ent38 ent39 ent29).mono ?_
  rintro e w4 ⟨rfl, hb4⟩
  have H4 := Lib.hid (two_more H3.out hb4 H3.out.size)
  clear hb4
  go_wp2
  go_ret
  exact ⟨rfl, H4.out⟩
set_option maxRecDepth 100000 in
set_option maxHeartbeats 3200000 in
theorem sync_nil (k : ByteArray) (w : World) : Calls Try.prog 12 #[nop, .string k] w fun e w' => e = .returned (.int .i64 14) ∧ Below w.heap.size w w' := by
  have hmf : ∀ (fn : Fn) (first cap : Array Value) (w : World), (Instr.makeFunc fn first cap).run Try.prog w = .ok (.func fn first cap) w := fun _ _ _ _ => rfl
  have H0 := one_cell w (.cells #[.string k] 9)
  go_enter Try.func12, Try.ntmps12
  go_wp2_with fail
  refine (named_nk _ _ ⟨_, _, _, rfl⟩).mono ?_
  rintro e w2 ⟨⟨C, rfl⟩, hb2⟩
  have H2 := Lib.hid (two_more H0.out hb2 H0.out.size)
  clear hb2
  go_wp2_with fail
  refine (has_nk k w2).mono ?_
  rintro e w3 ⟨⟨C3, D3, rfl⟩, hb3⟩
  have H3 := Lib.hid (two_more H2.out hb3 H2.out.size)
  clear hb3
  go_wp2_with fail
  refine (four_nil (tNam C) ⟨40, #[], #[ptr C3, ptr D3]⟩ ⟨29, #[nop], #[]⟩ w3 ent38 ent40 ent29).mono ?_
  rintro e w4 ⟨rfl, hb4⟩
  have H4 := Lib.hid (two_more H3.out hb4 H3.out.size)
  clear hb4
  go_wp2
  go_ret
  exact ⟨rfl, H4.out⟩
set_option maxRecDepth 100000 in
set_option maxHeartbeats 3200000 in
theorem read_nil (k : ByteArray) (w : World) : Calls Try.prog 13 #[nop, .string k] w fun e w' => e = .returned (.tuple #[.string ⟨#[]⟩, .int .i64 14]) ∧ Below w.heap.size w w' := by
  have hmf : ∀ (fn : Fn) (first cap : Array Value) (w : World), (Instr.makeFunc fn first cap).run Try.prog w = .ok (.func fn first cap) w := fun _ _ _ _ => rfl
  have H0 := one_cell w (.cells #[.string k] 9)
  go_enter Try.func13, Try.ntmps13
  go_wp2_with fail
  refine (named_nk _ _ ⟨_, _, _, rfl⟩).mono ?_
  rintro e w2 ⟨⟨C, rfl⟩, hb2⟩
  have H2 := Lib.hid (two_more H0.out hb2 H0.out.size)
  clear hb2
  go_wp2_with fail
  refine (has_nk k w2).mono ?_
  rintro e w3 ⟨⟨C3, D3, rfl⟩, hb3⟩
  have H3 := Lib.hid (two_more H2.out hb3 H2.out.size)
  clear hb3
  go_wp2_with fail
  refine (three_nil (tNam C) ⟨40, #[], #[ptr C3, ptr D3]⟩ w3 ent38 ent40).mono ?_
  rintro e w4 ⟨rfl, hb4⟩
  have H4 := Lib.hid (two_more H3.out hb4 H3.out.size)
  clear hb4
  go_wp2
  go_ret2
  exact ⟨rfl, H4.out⟩
set_option maxRecDepth 100000 in
set_option maxHeartbeats 3200000 in
theorem rename_nil (k j : ByteArray) (w : World) : Calls Try.prog 20 #[nop, .string k, .string j] w fun e w' => e = .returned (.int .i64 14) ∧ Below w.heap.size w w' := by
  have hmf : ∀ (fn : Fn) (first cap : Array Value) (w : World), (Instr.makeFunc fn first cap).run Try.prog w = .ok (.func fn first cap) w := fun _ _ _ _ => rfl
  have H0 := one_cell w (.cells #[.string k, .string j] 9)
  go_enter Try.func20, Try.ntmps20
  go_wp2_with fail
  refine (named_nk _ _ ⟨_, _, _, rfl⟩).mono ?_
  rintro e w2 ⟨⟨C, rfl⟩, hb2⟩
  have H2 := Lib.hid (two_more H0.out hb2 H0.out.size)
  clear hb2
  go_wp2_with fail
  refine (has_nk k w2).mono ?_
  rintro e w3 ⟨⟨C3, D3, rfl⟩, hb3⟩
  have H3 := Lib.hid (two_more H2.out hb3 H2.out.size)
  clear hb3
  go_wp2_with fail
  refine (four_nil (tNam C) ⟨40, #[], #[ptr C3, ptr D3]⟩ ⟨29, #[nop], #[]⟩ w3 ent38 ent40 ent29).mono ?_
  rintro e w4 ⟨rfl, hb4⟩
  have H4 := Lib.hid (two_more H3.out hb4 H3.out.size)
  clear hb4
  go_wp2
  go_ret
  exact ⟨rfl, H4.out⟩
set_option maxRecDepth 100000 in
set_option maxHeartbeats 3200000 in
theorem remove_nil (k : ByteArray) (w : World) : Calls Try.prog 21 #[nop, .string k] w fun e w' => e = .returned (.int .i64 14) ∧ Below w.heap.size w w' := by
  have hmf : ∀ (fn : Fn) (first cap : Array Value) (w : World), (Instr.makeFunc fn first cap).run Try.prog w = .ok (.func fn first cap) w := fun _ _ _ _ => rfl
  have H0 := one_cell w (.cells #[.string k] 9)
  go_enter Try.func21, Try.ntmps21
  go_wp2_with fail
  refine (named_nk _ _ ⟨_, _, _, rfl⟩).mono ?_
  rintro e w2 ⟨⟨C, rfl⟩, hb2⟩
  have H2 := Lib.hid (two_more H0.out hb2 H0.out.size)
  clear hb2
  go_wp2_with fail
  refine (has_nk k w2).mono ?_
  rintro e w3 ⟨⟨C3, D3, rfl⟩, hb3⟩
  have H3 := Lib.hid (two_more H2.out hb3 H2.out.size)
  clear hb3
  go_wp2_with fail
  refine (four_nil (tNam C) ⟨40, #[], #[ptr C3, ptr D3]⟩ ⟨29, #[nop], #[]⟩ w3 ent38 ent40 ent29).mono ?_
  rintro e w4 ⟨rfl, hb4⟩
  have H4 := Lib.hid (two_more H3.out hb4 H3.out.size)
  clear hb4
  go_wp2
  go_ret
  exact ⟨rfl, H4.out⟩
set_option maxRecDepth 100000 in
set_option maxHeartbeats 3200000 in
theorem cut_nil (k : ByteArray) (n : Int) (w : World) : Calls Try.prog 22 #[nop, .string k, .int .i64 n] w fun e w' => e = .returned (.int .i64 14) ∧ Below w.heap.size w w' := by
  have hmf : ∀ (fn : Fn) (first cap : Array Value) (w : World), (Instr.makeFunc fn first cap).run Try.prog w = .ok (.func fn first cap) w := fun _ _ _ _ => rfl
  have H0 := one_cell w (.cells #[.string k] 9)
  go_enter Try.func22, Try.ntmps22
  go_wp2_with fail
  refine (named_nk _ _ ⟨_, _, _, rfl⟩).mono ?_
  rintro e w2 ⟨⟨C, rfl⟩, hb2⟩
  have H2 := Lib.hid (two_more H0.out hb2 H0.out.size)
  clear hb2
  go_wp2_with fail
  refine (has_nk k w2).mono ?_
  rintro e w3 ⟨⟨C3, D3, rfl⟩, hb3⟩
  have H3 := Lib.hid (two_more H2.out hb3 H2.out.size)
  clear hb3
  go_wp2_with fail
  refine (reaches_nk k n w3).mono ?_
  rintro e w3 ⟨⟨C4, rfl⟩, hb3⟩
  have H3 := Lib.hid (two_more H3.out hb3 H3.out.size)
  clear hb3
  go_wp2_with fail
  refine (five_nil (tNam C) ⟨40, #[], #[ptr C3, ptr D3]⟩ ⟨43, #[], C4⟩ ⟨29, #[nop], #[]⟩ w3 ent38 ent40 ent43 ent29).mono ?_
  rintro e w4 ⟨rfl, hb4⟩
  have H4 := Lib.hid (two_more H3.out hb4 H3.out.size)
  clear hb4
  go_wp2
  go_ret
  exact ⟨rfl, H4.out⟩
set_option maxRecDepth 100000 in
set_option maxHeartbeats 3200000 in
theorem names_nil (w : World) : Calls Try.prog 23 #[nop] w fun e w' => e = .returned (.slice none 0 0) ∧ w = w' := by
  go_enter Try.func23, Try.ntmps23
  go_wp2
  go_ret
  exact ⟨rfl, rfl⟩
set_option maxRecDepth 100000 in
set_option maxHeartbeats 3200000 in
theorem used_nil (w : World) : Calls Try.prog 18 #[nop] w fun e w' => e = .returned (.int .i64 0) ∧ w = w' := by
  go_enter Try.func18, Try.ntmps18
  go_wp2
  go_ret
  exact ⟨rfl, rfl⟩
set_option maxRecDepth 100000 in
set_option maxHeartbeats 3200000 in
theorem copy_nil (w : World) : Calls Try.prog 24 #[nop] w fun e w' => e = .returned nop ∧ w = w' := by
  go_enter Try.func24, Try.ntmps24
  go_wp2
  go_ret
  exact ⟨rfl, rfl⟩
set_option maxRecDepth 100000 in
set_option maxHeartbeats 3200000 in
theorem crash_nil (a : Option Addr) (n c : Nat) (w : World) : Calls Try.prog 14 #[nop, .slice a n c] w fun e w' => (∃ u, e = .returned u) ∧ Below w.heap.size w w' := by
  have H0 := one_cell w (.cells #[.slice a n c] 23)
  go_enter Try.func14, Try.ntmps14
  go_wp2
  refine bodyPost_ret (results_none rfl _ _ _) rfl ?_
  exact ⟨⟨_, rfl⟩, H0.out⟩
end Go.Proofs.Ytpihlamhpmmeeaa
