/-
  What chosen hands back, where the function that chooses may count in memory of its own.
-/
import Derived.Test.YtocmgdhhlofajaaFns
namespace Go.Proofs.Ytocmgdhhlofajaa
open Go.RowKit
theorem own_tr {S : Nat → Prop} {w w' : World} {base e size n : Nat} {v : Value} {xs : List Value} (h : w.ownsRow base e size v n xs) (ht : Tr S w w') (hS : ∀ k, base ≤ k → ¬ S k) : w'.ownsRow base e size v n xs := by
  refine ⟨h.1, ?_⟩
  rcases h.2 with h | ⟨g, cap, cur, rfl, h0, hg, r⟩
  · exact .inl h
  · exact .inr ⟨g, cap, cur, rfl, h0, (ht.block g (Array.getElem?_eq_some_iff.1 hg).1 (hS g h0)).trans hg, r⟩
set_option maxRecDepth 100000 in
set_option maxHeartbeats 4000000 in
theorem chosen_any (N : Nat) (hN : ∀ args w, (callFunc N args).run Try.prog w = .ok (.enter N args) w) (caps : Array Value) (p : List It → It → Bool) (S S0 : Nat → Prop) (b : Nat) (s : St) (w : World) (h : Pn S b s w) (hB : s.its.length ≤ 1000000)
    (hS0 : ∀ k, S0 k → k < w.heap.size ∧ ¬ S k) (K : Nat → World → Prop)
    (hcall : ∀ k x w1, s.its[k]? = some x → K k w1 → w.heap.size ≤ w1.heap.size → Calls Try.prog N (#[ia x] ++ caps) w1 fun e w3 => e = .returned (.bool (p (s.its.take k) x)) ∧ K (k + 1) w3 ∧ Tr S0 w1 w3)
    (hstab : ∀ k w1 w2, K k w1 → w.heap.size ≤ w1.heap.size → Below w.heap.size w1 w2 → K k w2) (h0 : K 0 w) :
    Calls Try.prog 38 #[ptr b, .func (.func N) #[] caps] w fun e w' => ∃ v, e = .returned v ∧ w'.ownsRow w.heap.size 52 6 v (cho p [] s.its).length (cs ic (cho p [] s.its)) ∧ Tr S0 w w' := by
  obtain ⟨vi, vl, hp⟩ := h
  have c0 := hp.c0
  have hrow := hp.ri
  have hcells := fun h => hrow.cells ic_len h
  have hsi := hp.si
  obtain ⟨a, cap, rfl, _, _⟩ := hp.ri.shape
  clear hp
  generalize s.its = X at *
  obtain ⟨n, hn⟩ : ∃ n, n = X.length := ⟨_, rfl⟩
  rw [← hn] at c0 hB hcells
  have HN := Lib.hid hn
  have HC := Lib.hid hcall
  have HS := Lib.hid hstab
  have HS0 := Lib.hid hS0
  have HCE := Lib.hid hcells
  have HSI := Lib.hid hsi
  have H0 := Lib.hid h0
  obtain ⟨i0, hi, hz0, hz1, hz2⟩ := info_parts info52
  clear hrow hcells hsi hn hcall hstab hS0 h0
  go_enter Try.func38, Try.ntmps38
  go_wp2
  go_loopw [5, 15] (fun v i wr => ∃ k : Nat, k ≤ n ∧ i = .int .i64 (k : Int) ∧ wr.ownsRow w.heap.size 52 6 v (cho p [] (X.take k)).length (cs ic (cho p [] (X.take k))) ∧ K k wr ∧ Tr S0 w wr) (fun _ i _ => n - (intOf i).toNat)
  case atStart => exact ⟨0, by omega, rfl, World.ownsRow_nil _ _ _ _, H0.out, Tr.refl _ _⟩
  case round =>
    obtain ⟨k, hk, rfl, hown, hK, htr⟩ := hrel
    have HOW := Lib.hid hown
    have HK := Lib.hid hK
    have HTR := Lib.hid htr
    have hsz := htr.size
    have hcl := cho_len p [] (X.take k)
    rw [List.length_take] at hcl
    obtain ⟨m, hm⟩ : ∃ m, m = (cho p [] (X.take k)).length := ⟨_, rfl⟩
    rw [← hm] at HOW hcl
    have HM := Lib.hid hm
    have hmb : m ≤ 1000000 := by omega
    clear hown hK htr H0 hm hcl
    by_cases hlt : k < n
    · have q1 : (k : Int) < (n : Int) := by omega
      obtain ⟨g, cap', e, _, hg, hcell⟩ := HCE.out (by omega)
      injection e with e1 e2 e3
      subst e1
      have hgS : ¬ S0 g := fun h => (HS0.out g h).2 (HSI.out g rfl)
      obtain ⟨x, hx⟩ : ∃ x, X[k]? = some x := ⟨_, List.getElem?_eq_getElem (by rw [← HN.out]; exact hlt)⟩
      have hcr : ∀ j u, (ic x)[j]? = some u → wr.cell? ⟨g, k * 6 + j, none⟩ = some u := fun j u hu => (HTR.out.cell (p := ⟨g, k * 6 + j, none⟩) hg hgS).trans (hcell k x hx j u hu)
      have c0 : wr.cell? ⟨g, k * 6, none⟩ = some (.int .i64 x.num) := hcr 0 _ rfl
      have c1 : wr.cell? ⟨g, k * 6 + 1, none⟩ = some (.int .i64 x.kind) := hcr 1 _ rfl
      have c2 : wr.cell? ⟨g, k * 6 + 2, none⟩ = some (.int .i64 x.frm) := hcr 2 _ rfl
      have c3 : wr.cell? ⟨g, k * 6 + 3, none⟩ = some (.int .i64 x.dst) := hcr 3 _ rfl
      have c4 : wr.cell? ⟨g, k * 6 + 4, none⟩ = some (.int .i64 x.conn) := hcr 4 _ rfl
      have c5 : wr.cell? ⟨g, k * 6 + 5, none⟩ = some (.string x.body) := hcr 5 _ rfl
      have hgl := Nat.lt_of_lt_of_le hg hsz
      have CT := Lib.hid (cho_take p hx)
      have hal : Below w.heap.size wr (wr.alloc (.cells (ic x).toArray 74)) := (Below.refl _ wr).alloc hsz _
      have hnewc := ce_new wr (ic x).toArray 74
      have HCA := Lib.hid (HC.out k x _ hx (HS.out _ _ _ HK.out hsz hal) (by have := hal.size; omega))
      have HTA := Lib.hid (HTR.out.alloc (.cells (ic x).toArray 74))
      have HNE := Lib.hid hnewc
      clear hcell hcr hx hal hnewc e2 e3
      go_wp2_with fail
      refine HCA.out.mono ?_
      rintro e w3 ⟨rfl, hk3, ht3⟩
      have HK3 := Lib.hid hk3
      have hsz3 := ht3.size
      have hnS : ¬ S0 wr.heap.size := fun h => by have := (HS0.out _ h).1; omega
      have HCE3 := Lib.hid (HNE.out.tr ht3 hnS)
      have HO3 := Lib.hid (own_tr (HOW.out.alloc (.cells (ic x).toArray 74)) ht3 (fun k hk h => by have := (HS0.out k h).1; omega))
      have HT3 := Lib.hid (HTA.out.then ht3)
      obtain ⟨d0, d1, d2, d3, d4, d5⟩ := c6 HCE3.out
      have hB3 := HCE3.out.lt
      obtain ⟨B, hB⟩ : ∃ B, B = wr.heap.size := ⟨_, rfl⟩
      rw [← hB] at d0 d1 d2 d3 d4 d5 hB3 ⊢
      have hsw : w.heap.size ≤ w3.heap.size := by omega
      clear hk3 ht3 c0 c1 c2 c3 c4 c5 hB hnS hsz3 HTA HNE HCA
      cases hp : p (X.take k) x with
      | false =>
        have hq0 : cho p [] (X.take (k + 1)) = cho p [] (X.take k) := by rw [CT.out]; simp [hp]
        have HQ0 := Lib.hid hq0
        clear hp hq0
        go_wp2
        go_roundw
        case rel => exact ⟨k + 1, by omega, by go_num, by rw [HQ0.out, ← HM.out]; exact HO3.out, HK3.out, HT3.out⟩
        case measure => simp [intOf]; omega
      | true =>
        have hq0 : cho p [] (X.take (k + 1)) = cho p [] (X.take k) ++ [x] := by rw [CT.out]; simp [hp]
        have HQ0 := Lib.hid hq0
        clear hp hq0
        go_wp2_with (at_builtin; refine wpList_append_own _ rfl (.tmp 22) (.tmp 24) 27 rfl w.heap.size 52 i0 _ 6 56 Try.underlying27 hi hz0 hz1 hz2 rfl (by decide) _ m _ rfl (HO3.out.alloc _) ⟨w3.heap.size, 0, none⟩ 1 1 (ic x) rfl rfl (fun j u hj => World.news_of_block (cs := (ic x).toArray) (t := 52) (fr := (0, 0)) (heap_alloc_new w3 _) j u (by simpa using hj)) (by simp [Value.oneCell']) (by unfold maxLen; omega) (by omega) (by simp; omega) ?_)
        intro v4 w4 hown4 hg4 _
        have hb4 : Below w.heap.size w3 w4 := (((Below.refl _ w3).alloc hsw _).trans ⟨hg4.os, hg4.tape, hg4.output, hg4.size, fun k hk => hg4.block k (by simp; omega) (fun e => by have := (World.ownsRow.lt HO3.out k e.symm).1; omega)⟩)
        have HK4 := Lib.hid (HS.out _ _ _ HK3.out hsw hb4)
        have HO4 : Hid (w4.ownsRow w.heap.size 52 6 v4 (m + 1) (cs ic (cho p [] (X.take k)) ++ ic x)) := Lib.hid hown4
        have HT4 := Lib.hid ((HT3.out.alloc _).grown hg4 (fun k e => .inr (World.ownsRow.lt HO3.out k e).1))
        clear hown4 hg4 hb4 d0 d1 d2 d3 d4 d5
        go_wp2
        go_roundw
        case rel => exact ⟨k + 1, by omega, by go_num, by rw [HQ0.out, List.length_append, ← HM.out, cs_append, cs_one]; exact HO4.out, HK4.out, HT4.out⟩
        case measure => simp [intOf]; omega
    · have q1 : decide ((k : Int) < (n : Int)) = false := by simp; omega
      obtain rfl : k = n := by omega
      have e1 : X.take k = X := by rw [HN.out, List.take_length]
      rw [e1] at HOW HM
      go_wp2
      go_ret
      exact ⟨_, rfl, by rw [← HM.out]; exact HOW.out, HTR.out⟩
end Go.Proofs.Ytocmgdhhlofajaa
