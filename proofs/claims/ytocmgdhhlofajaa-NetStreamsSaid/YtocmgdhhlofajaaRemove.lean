/-
  What remove leaves and answers, where the function that chooses only reads; the functions that choose: of a connection, from or to a node, of a number, datagrams.
-/
import Derived.Test.YtocmgdhhlofajaaWithI
import Derived.Test.YtocmgdhhlofajaaWithL
namespace Go.Proofs.Ytocmgdhhlofajaa
open Go.RowKit
theorem enters {N : Nat} {fn : Func} (h : Try.prog.funcs[N]? = some fn) (h1 : (fn.name == "runtime.NumGoroutine") = false) (h2 : fn.body.isNone = false) (args : Array Value) (w : World) : (callFunc N args).run Try.prog w = .ok (.enter N args) w := by
  simp [callFunc, h, go_sem]
  have e1 : ¬ fn.name = "runtime.NumGoroutine" := by simpa using h1
  have e2 : ¬ fn.body = none := by intro e; rw [e] at h2; cases h2
  rw [if_neg e1, if_neg e2]
theorem ent48 (args : Array Value) (w : World) : (callFunc 48 args).run Try.prog w = .ok (.enter 48 args) w := enters Try.func48 (by kernel_rfl) (by kernel_rfl) args w
theorem ent49 (args : Array Value) (w : World) : (callFunc 49 args).run Try.prog w = .ok (.enter 49 args) w := enters Try.func49 (by kernel_rfl) (by kernel_rfl) args w
theorem ent44 (args : Array Value) (w : World) : (callFunc 44 args).run Try.prog w = .ok (.enter 44 args) w := enters Try.func44 (by kernel_rfl) (by kernel_rfl) args w
theorem ent46 (args : Array Value) (w : World) : (callFunc 46 args).run Try.prog w = .ok (.enter 46 args) w := enters Try.func46 (by kernel_rfl) (by kernel_rfl) args w
theorem ent60 (args : Array Value) (w : World) : (callFunc 60 args).run Try.prog w = .ok (.enter 60 args) w := enters Try.func60 (by kernel_rfl) (by kernel_rfl) args w
theorem ent57 (args : Array Value) (w : World) : (callFunc 57 args).run Try.prog w = .ok (.enter 57 args) w := enters Try.func57 (by kernel_rfl) (by kernel_rfl) args w
theorem ent58 (args : Array Value) (w : World) : (callFunc 58 args).run Try.prog w = .ok (.enter 58 args) w := enters Try.func58 (by kernel_rfl) (by kernel_rfl) args w
set_option maxRecDepth 100000 in
set_option maxHeartbeats 1600000 in
theorem nil_i (fv : Value) (w : World) : Calls Try.prog 59 #[.slice none 0 0, fv] w fun e w' => e = .returned (.slice none 0 0) ∧ w = w' := by
  have hcl : ∀ w, (Builtin.clear_ #[58] 0 #[.slice none 0 0]).run Try.prog w = .ok (.tuple #[]) w := fun w => by simp [Builtin.clear_, run_underlying Try.underlying58]
  go_enter Try.func59, Try.ntmps59
  go_wp2
  refine wp_loop_rounds 1 ?_
  rw [rounds_succ]
  go_wp2
  go_ret
  exact ⟨rfl, rfl⟩
set_option maxRecDepth 100000 in
set_option maxHeartbeats 1600000 in
theorem nil_l (fv : Value) (w : World) : Calls Try.prog 45 #[.slice none 0 0, fv] w fun e w' => e = .returned (.slice none 0 0) ∧ w = w' := by
  have hcl : ∀ w, (Builtin.clear_ #[59] 0 #[.slice none 0 0]).run Try.prog w = .ok (.tuple #[]) w := fun w => by simp [Builtin.clear_, run_underlying Try.underlying59]
  go_enter Try.func45, Try.ntmps45
  go_wp2
  refine wp_loop_rounds 1 ?_
  rw [rounds_succ]
  go_wp2
  go_ret
  exact ⟨rfl, rfl⟩
theorem quiet_i (N : Nat) (hN : ∀ args w, (callFunc N args).run Try.prog w = .ok (.enter N args) w) (caps : Array Value) (f : It → Bool) (X : List It) (v : Value) (w : World) (hrow : Rw ic 74 6 w v X) (hn : X.length ≤ 1000000)
    (hq : ∀ x w1, Tr (fun k => v.ownBlock = some k) w w1 → Calls Try.prog N (#[ia x] ++ caps) w1 fun e w2 => e = .returned (.bool (f x)) ∧ Below w1.heap.size w1 w2) :
    Calls Try.prog 59 #[v, .func (.func N) #[] caps] w fun e w' => ∃ v', e = .returned v' ∧ Rw ic 74 6 w' v' (X.filter fun x => !f x) ∧ Tr (fun k => v.ownBlock = some k) w w' ∧ v'.ownBlock = v.ownBlock := by
  rcases hrow.2 with ⟨rfl, h0⟩ | ⟨g, cap, cur, rfl, _, hg, _⟩
  · obtain rfl : X = [] := List.length_eq_zero_iff.1 h0
    refine (nil_i _ w).mono ?_
    rintro e w' ⟨rfl, rfl⟩
    exact ⟨_, rfl, Rw.nil _, Tr.refl _ _, rfl⟩
  · have hgl : g < w.heap.size := (Array.getElem?_eq_some_iff.1 hg).1
    have hS : ∀ k, (Value.slice (some ⟨g, 0, none⟩) X.length cap).ownBlock = some k ↔ k = g := fun k => by simp [Value.ownBlock, eq_comm]
    have H := with_i N hN caps X (fun _ x => f x) (fun _ w1 => Tr (fun k => (Value.slice (some ⟨g, 0, none⟩) X.length cap).ownBlock = some k) w w1) g cap w hrow hn
      (fun k x w1 _ hk => (hq x (w1.alloc (.cells (ic x).toArray 74)) (hk.alloc _)).mono (by
        rintro e w3 ⟨rfl, hb⟩
        refine ⟨rfl, (hk.alloc _).then (Tr.of_below hb), (ce_new w1 (ic x).toArray 74).below hb (by simp), ?_, ?_⟩
        · have h1 := Nat.lt_of_lt_of_le hgl hk.size
          exact (hb.block g (by simp; omega)).trans (((Below.refl _ w1).alloc (Nat.le_refl _) _).block g h1)
        · have := hb.size
          simp at this
          omega))
      (fun k w1 w2 hk ht => hk.trans ht (fun i hi => .inl ((hS i).2 hi))) (Tr.refl _ _)
    refine H.mono ?_
    rintro e w' ⟨rfl, hk, hr⟩
    have e1 : cho (fun _ x => !f x) [] X = X.filter (fun x => !f x) := cho_filter _ _ _
    rw [e1] at hr ⊢
    exact ⟨_, rfl, hr, hk, rfl⟩
theorem quiet_l (N : Nat) (hN : ∀ args w, (callFunc N args).run Try.prog w = .ok (.enter N args) w) (caps : Array Value) (f : Lk → Bool) (X : List Lk) (v : Value) (w : World) (hrow : Rw lc 64 3 w v X) (hn : X.length ≤ 1000000)
    (hq : ∀ x w1, Tr (fun k => v.ownBlock = some k) w w1 → Calls Try.prog N (#[la x] ++ caps) w1 fun e w2 => e = .returned (.bool (f x)) ∧ Below w1.heap.size w1 w2) :
    Calls Try.prog 45 #[v, .func (.func N) #[] caps] w fun e w' => ∃ v', e = .returned v' ∧ Rw lc 64 3 w' v' (X.filter fun x => !f x) ∧ Tr (fun k => v.ownBlock = some k) w w' ∧ v'.ownBlock = v.ownBlock := by
  rcases hrow.2 with ⟨rfl, h0⟩ | ⟨g, cap, cur, rfl, _, hg, _⟩
  · obtain rfl : X = [] := List.length_eq_zero_iff.1 h0
    refine (nil_l _ w).mono ?_
    rintro e w' ⟨rfl, rfl⟩
    exact ⟨_, rfl, Rw.nil _, Tr.refl _ _, rfl⟩
  · have hgl : g < w.heap.size := (Array.getElem?_eq_some_iff.1 hg).1
    have hS : ∀ k, (Value.slice (some ⟨g, 0, none⟩) X.length cap).ownBlock = some k ↔ k = g := fun k => by simp [Value.ownBlock, eq_comm]
    have H := with_l N hN caps X (fun _ x => f x) (fun _ w1 => Tr (fun k => (Value.slice (some ⟨g, 0, none⟩) X.length cap).ownBlock = some k) w w1) g cap w hrow hn
      (fun k x w1 _ hk => (hq x (w1.alloc (.cells (lc x).toArray 64)) (hk.alloc _)).mono (by
        rintro e w3 ⟨rfl, hb⟩
        refine ⟨rfl, (hk.alloc _).then (Tr.of_below hb), (ce_new w1 (lc x).toArray 64).below hb (by simp), ?_, ?_⟩
        · have h1 := Nat.lt_of_lt_of_le hgl hk.size
          exact (hb.block g (by simp; omega)).trans (((Below.refl _ w1).alloc (Nat.le_refl _) _).block g h1)
        · have := hb.size
          simp at this
          omega))
      (fun k w1 w2 hk ht => hk.trans ht (fun i hi => .inl ((hS i).2 hi))) (Tr.refl _ _)
    refine H.mono ?_
    rintro e w' ⟨rfl, hk, hr⟩
    have e1 : cho (fun _ x => !f x) [] X = X.filter (fun x => !f x) := cho_filter _ _ _
    rw [e1] at hr ⊢
    exact ⟨_, rfl, hr, hk, rfl⟩
theorem Tr.as_grown {w w' : World} {r : Option Nat} (h : Tr (fun k => r = some k) w w') : w.grownBy w' r := ⟨h.os, h.tape, h.output, h.size, fun k hk hs => h.block k hk (fun e => hs e.symm)⟩
set_option maxRecDepth 100000 in
set_option maxHeartbeats 4000000 in
theorem remove_any (N : Nat) (hN : ∀ args w, (callFunc N args).run Try.prog w = .ok (.enter N args) w) (caps : Array Value) (f : It → Bool) (S : Nat → Prop) (b : Nat) (s : St) (w : World) (h : Pn S b s w) (hB : s.its.length ≤ 1000000)
    (hq : ∀ x w1, Tr S w w1 → Calls Try.prog N (#[ia x] ++ caps) w1 fun e w2 => e = .returned (.bool (f x)) ∧ Below w1.heap.size w1 w2) :
    Calls Try.prog 43 #[ptr b, .func (.func N) #[] caps] w fun e w' => e = .returned (.int .i64 ((s.its.length - (s.its.filter fun x => !f x).length : Nat) : Int)) ∧ Pl S b ⟨s.its.filter fun x => !f x, s.lks, s.puts, s.opens⟩ w w' := by
  obtain ⟨vi, vl, hp⟩ := h
  have c0 := hp.c0
  have C := quiet_i N hN caps f s.its vi w hp.ri hB (fun x w1 ht => hq x w1 (ht.mono fun k hk => hp.si k hk))
  obtain ⟨a, cap, rfl, _, _⟩ := hp.ri.shape
  have HP := Lib.hid hp
  have HC := Lib.hid C
  have HQ := Lib.hid hq
  have hle := List.length_filter_le (fun x => !f x) s.its
  obtain ⟨m, hm⟩ : ∃ m, m = (s.its.filter fun x => !f x).length := ⟨_, rfl⟩
  rw [← hm] at hle ⊢
  have HM := Lib.hid hm
  obtain ⟨n, hn⟩ : ∃ n, n = s.its.length := ⟨_, rfl⟩
  rw [← hn] at c0 hB hle HC HP ⊢
  have HN := Lib.hid hn
  have hcast : ((n - m : Nat) : Int) = (n : Int) - (m : Int) := by omega
  rw [hcast]
  clear hp C hq hm hn hcast
  go_enter Try.func43, Try.ntmps43
  go_wp2_with fail
  refine HC.out.mono ?_
  rintro e w1 ⟨v', rfl, hr, ht, ho⟩
  have hr2 := hr
  obtain ⟨a', cap', rfl, _, _⟩ := hr2.shape
  have hci := HP.out.cell_i ht.as_grown hr (fun k hk => .inl (HP.out.si k (by rw [← ho]; exact hk)))
  have hbk : w1.heap[b]? = w.heap[b]? := ht.block b HP.out.lt (fun e => HP.out.ri.not_cells HP.out.blk HP.out.ne.1 e)
  have d0 : w1.cell? ⟨b, 0, none⟩ = some (.slice a n cap) := (World.cell?_of_block hbk).trans HP.out.c0
  have f0 : w1.frozen? ⟨b, 0, none⟩ = false := (World.frozen?_of_block hbk).trans (HP.out.fz 0 (by omega))
  have HL : Hid (Pl S b ⟨s.its.filter fun x => !f x, s.lks, s.puts, s.opens⟩ w (w1.setCell ⟨b, 0, none⟩ (.slice a' (s.its.filter fun x => !f x).length cap'))) :=
    Lib.hid ⟨⟨_, _, hci⟩, (ht.mono fun k hk => HP.out.si k hk).setCell (.inl HP.out.own) _⟩
  rw [← HM.out] at HL ⊢
  have e0 := hci.c0
  rw [← HM.out] at e0
  clear hr hr2 ht hci hbk c0 ho
  go_wp2
  go_ret
  exact ⟨rfl, HL.out⟩
end Go.Proofs.Ytocmgdhhlofajaa
