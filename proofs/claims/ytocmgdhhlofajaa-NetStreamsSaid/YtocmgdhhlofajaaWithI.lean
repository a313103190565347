/-
  What 'without' leaves and answers, for items: those that are not chosen, at the list's beginning; the function that chooses may do what it likes elsewhere.
-/
import Derived.Test.YtocmgdhhlofajaaWKit
namespace Go.Proofs.Ytocmgdhhlofajaa
open Go.RowKit
theorem zero6_one : ∀ u ∈ (Value.agg #[.int .i64 0, .int .i64 0, .int .i64 0, .int .i64 0, .int .i64 0, .string ⟨#[]⟩]).cells, u.oneCell' = true := by
  intro u hu
  simp [Value.cells] at hu
  rcases hu with rfl | rfl <;> rfl
set_option maxRecDepth 100000 in
set_option maxHeartbeats 4000000 in
theorem with_i (N : Nat) (hN : ∀ args w, (callFunc N args).run Try.prog w = .ok (.enter N args) w) (caps : Array Value) (X : List It) (p : List It → It → Bool) (K : Nat → World → Prop) (g cap : Nat) (w : World) (hrow : Rw ic 74 6 w (.slice (some ⟨g, 0, none⟩) X.length cap) X)
    (hn : X.length ≤ 1000000)
    (hcall : ∀ k x w1, X[k]? = some x → K k w1 → Calls Try.prog N (#[ia x] ++ caps) (w1.alloc (.cells (ic x).toArray 74)) fun e w3 => e = .returned (.bool (p (X.take k) x)) ∧ K (k + 1) w3 ∧ Ce w3 w1.heap.size 74 (ic x).toArray ∧ w3.heap[g]? = w1.heap[g]? ∧ w1.heap.size ≤ w3.heap.size)
    (hstab : ∀ k w1 w2, K k w1 → Tr (· = g) w1 w2 → K k w2) (h0 : K 0 w) :
    Calls Try.prog 59 #[.slice (some ⟨g, 0, none⟩) X.length cap, .func (.func N) #[] caps] w fun e w' =>
      e = .returned (.slice (some ⟨g, 0, none⟩) (cho (fun pre x => !p pre x) [] X).length cap) ∧ K X.length w' ∧ Rw ic 74 6 w' (.slice (some ⟨g, 0, none⟩) (cho (fun pre x => !p pre x) [] X).length cap) (cho (fun pre x => !p pre x) [] X) := by
  obtain ⟨a1, cap1, e1, hcap, hcm⟩ := hrow.shape
  injection e1 with e11 e12 e13
  subst e13
  clear e11 e12
  have HT := Lib.hid (Thin.of_row hrow ic_len)
  obtain ⟨n, hn'⟩ : ∃ n, n = X.length := ⟨_, rfl⟩
  rw [← hn'] at hn hcap ⊢
  have HN := Lib.hid hn'
  have HC := Lib.hid hcall
  have HS := Lib.hid hstab
  have H0 := Lib.hid h0
  obtain ⟨q, hq⟩ : ∃ q : List It → It → Bool, q = fun pre x => !p pre x := ⟨_, rfl⟩
  rw [← hq]
  have HQ := Lib.hid hq
  obtain ⟨i0, hi, hz0, hz1, hz2⟩ := info_parts info74
  clear hrow hcall hstab h0 hq hn'
  go_enter Try.func59, Try.ntmps59
  go_wp2
  go_loopw [5, 12] (fun v i wr => ∃ (k j : Nat), k ≤ n ∧ j ≤ k ∧ i = .int .i64 (k : Int) ∧ v = .slice (some ⟨g, 0, none⟩) j cap ∧ j = (cho q [] (X.take k)).length ∧ Thin ic 74 6 cap g (cho q [] (X.take k)) X k wr ∧ K k wr) (fun _ i _ => n - (intOf i).toNat)
  case atStart => exact ⟨0, 0, by omega, by omega, rfl, rfl, rfl, HT.out, H0.out⟩
  case round =>
    clear HT H0
    obtain ⟨k, j, hk, hjk, rfl, rfl, hj, ht, hK⟩ := hrel
    have HJ := Lib.hid hj
    have HT := Lib.hid ht
    have HK := Lib.hid hK
    clear hj ht hK
    by_cases hlt : k < n
    · have q1 : (k : Int) < (n : Int) := by omega
      obtain ⟨x, hx⟩ : ∃ x, X[k]? = some x := ⟨_, List.getElem?_eq_getElem (by rw [← HN.out]; exact hlt)⟩
      have c0 : wr.cell? ⟨g, k * 6, none⟩ = some (.int .i64 x.num) := HT.out.cell hx 0 _ rfl
      have c1 : wr.cell? ⟨g, k * 6 + 1, none⟩ = some (.int .i64 x.kind) := HT.out.cell hx 1 _ rfl
      have c2 : wr.cell? ⟨g, k * 6 + 2, none⟩ = some (.int .i64 x.frm) := HT.out.cell hx 2 _ rfl
      have c3 : wr.cell? ⟨g, k * 6 + 3, none⟩ = some (.int .i64 x.dst) := HT.out.cell hx 3 _ rfl
      have c4 : wr.cell? ⟨g, k * 6 + 4, none⟩ = some (.int .i64 x.conn) := HT.out.cell hx 4 _ rfl
      have c5 : wr.cell? ⟨g, k * 6 + 5, none⟩ = some (.string x.body) := HT.out.cell hx 5 _ rfl
      have HX := Lib.hid hx
      have CT := Lib.hid (cho_take q hx)
      have hgl := HT.out.lt
      clear hx
      go_wp2_with fail
      refine (HC.out k x wr HX.out HK.out).mono ?_
      rintro e w3 ⟨rfl, hk3, hce3, hg3, hs3⟩
      have HK3 := Lib.hid hk3
      have HT3 := Lib.hid (HT.out.of_block hg3)
      have HCE := Lib.hid hce3
      obtain ⟨d0, d1, d2, d3, d4, d5⟩ := c6 hce3
      have hB3 := hce3.lt
      obtain ⟨B, hB⟩ : ∃ B, B = wr.heap.size := ⟨_, rfl⟩
      rw [← hB] at d0 d1 d2 d3 d4 d5 hB3 HCE hgl ⊢
      clear hk3 hce3 hg3 hs3 c0 c1 c2 c3 c4 c5 hB
      cases hp : p (X.take k) x with
      | true =>
        have hq0 : cho q [] (X.take (k + 1)) = cho q [] (X.take k) := by rw [CT.out, HQ.out]; simp [hp]
        have HQ0 := Lib.hid hq0
        clear hp hq0
        go_wp2
        go_roundw
        case rel => exact ⟨k + 1, j, by omega, by omega, by go_num, rfl, by rw [HQ0.out]; exact HJ.out, by rw [HQ0.out]; exact HT3.out.skip, HK3.out⟩
        case measure => simp [intOf]; omega
      | false =>
        have hq0 : cho q [] (X.take (k + 1)) = cho q [] (X.take k) ++ [x] := by rw [CT.out, HQ.out]; simp [hp]
        have HQ0 := Lib.hid hq0
        clear hp hq0
        go_wp2_with (at_builtin; refine wpList_thin rfl (.tmp 20) (.tmp 22) 58 rfl i0 Try.underlying58 hi hz1 ic_len (fun x u hu => ones_i [x] u (by rw [cs_one]; exact hu)) (HT3.out.of_block (heap_alloc_old w3 _ HT3.out.lt)) HJ.out (by omega) (by omega) rfl rfl (heap_alloc_new w3 _) ?_)
        intro w4 ht4 htr4
        have HT4 := Lib.hid ht4
        have hb4 : Tr (· = g) w3 w4 := (Tr.of_below ((Below.refl _ w3).alloc (Nat.le_refl _) (.cells #[.int .i64 x.num, .int .i64 x.kind, .int .i64 x.frm, .int .i64 x.dst, .int .i64 x.conn, .string x.body] 74))).then htr4
        have HK4 := Lib.hid (HS.out _ _ _ HK3.out hb4)
        clear ht4 htr4 hb4 d0 d1 d2 d3 d4 d5
        go_wp2
        go_roundw
        case rel => exact ⟨k + 1, j + 1, by omega, by omega, by go_num, rfl, by rw [HQ0.out, List.length_append, ← HJ.out]; rfl, by rw [HQ0.out]; exact HT4.out, HK4.out⟩
        case measure => simp [intOf]; omega
    · have q1 : decide ((k : Int) < (n : Int)) = false := by simp; omega
      obtain rfl : k = n := by omega
      have e1 : X.take k = X := by rw [HN.out, List.take_length]
      rw [e1] at HT
      have HJ2 : Hid (j = (cho q [] X).length) := Lib.hid (by have := HJ.out; rw [e1] at this; exact this)
      have HTr := Lib.hid HS.out
      by_cases hcj : cap = j
      · subst hcj
        go_wp2_with (refine wpList_clear rfl (.tmp 28) 58 rfl i0 _ Try.underlying58 hi hz0 rfl zero6_one HT.out rfl (.inl rfl) ?_)
        intro w4 ht4 htr4
        have HR4 := Lib.hid (ht4.row (X := []) ic_len (by rw [← HJ2.out]; omega) hcm HJ2.out)
        have HK4 := Lib.hid (HS.out _ _ _ HK.out htr4)
        clear ht4 htr4
        go_wp2
        go_ret
        exact ⟨by rw [← HJ2.out]; rfl, HK4.out, by rw [← HJ2.out]; exact HR4.out⟩
      · go_wp2_with (refine wpList_clear rfl (.tmp 28) 58 rfl i0 _ Try.underlying58 hi hz0 rfl zero6_one HT.out rfl (.inr ⟨by rw [← HJ2.out]; rfl, by rw [← HJ2.out]; omega⟩) ?_)
        intro w4 ht4 htr4
        have HR4 := Lib.hid (ht4.row (X := []) ic_len (by rw [← HJ2.out]; omega) hcm HJ2.out)
        have HK4 := Lib.hid (HS.out _ _ _ HK.out htr4)
        clear ht4 htr4
        go_wp2
        go_ret
        exact ⟨by rw [← HJ2.out]; rfl, HK4.out, by rw [← HJ2.out]; exact HR4.out⟩
end Go.Proofs.Ytocmgdhhlofajaa
