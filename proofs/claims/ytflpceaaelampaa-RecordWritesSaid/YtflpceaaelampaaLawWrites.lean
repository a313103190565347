/-
  The walk of the law RecordWrites: for every text and every list of records it returns true; no older memory is changed.
-/
import Derived.Test.YtflpceaaelampaaRefPut
import Derived.Test.YtflpceaaelampaaRecs
import Derived.Test.YtflpceaaelampaaLawNil
import Derived.Test.YtflpceaaelampaaGetWalk
import Derived.Laws.StructEq
import Derived.Deep.RegionWith
import Derived.Deep.RegionHeld3
import Derived.WalkSpells
import Derived.BigQuiet
namespace Go.Proofs.Ytflpceaaelampaa
open Go.RowKit
/-- A packer, the document's packer, and blocks that hold what they held. -/
def WR (n bp br : Nat) (K : List (Nat × Obj)) (B : Bs) (L : Kn) (B' : Bs) (L' : Kn) (w0 w : World) : Prop :=
  ∃ S Q, PR n bp br S Q B L B' L' w ∧ n ≤ w.heap.size ∧ Below n w0 w ∧ ∀ p ∈ K, ¬ S p.1 ∧ ¬ Q p.1 ∧ w.heap[p.1]? = some p.2
section
variable {n bp br : Nat} {K : List (Nat × Obj)} {B B' : Bs} {L L' : Kn} {w0 w : World}
theorem WR.left (h : WR n bp br K B L B' L' w0 w) : ∃ S, PK S bp B L w ∧ ∀ w' B1 L1, Lft S bp B1 L1 w w' → WR n bp br K B1 L1 B' L' w0 w' := by
  obtain ⟨S, Q, hp, hn, hb, hk⟩ := h
  refine ⟨S, hp.p, fun w' B1 L1 hl => ?_⟩
  obtain ⟨⟨S1, h1, h2⟩, h3, _⟩ := hp.left hn hl
  refine ⟨S1, Q, h1, Nat.le_trans hn h3.size, hb.trans h3, fun p hp' => ?_⟩
  obtain ⟨m1, m2, m3⟩ := hk p hp'
  have hlt : p.1 < w.heap.size := (Array.getElem?_eq_some_iff.1 m3).1
  exact ⟨h2 _ hlt m1, m2, (hl.2.block _ hlt m1).trans m3⟩
theorem WR.right (h : WR n bp br K B L B' L' w0 w) : ∃ Q, RK Q br B' L' w ∧ ∀ w' B1 L1, RLft Q br B1 L1 w w' → WR n bp br K B L B1 L1 w0 w' := by
  obtain ⟨S, Q, hp, hn, hb, hk⟩ := h
  refine ⟨Q, hp.r, fun w' B1 L1 hl => ?_⟩
  obtain ⟨⟨Q1, h1, h2⟩, h3, _⟩ := hp.right hn hl
  refine ⟨S, Q1, h1, Nat.le_trans hn h3.size, hb.trans h3, fun p hp' => ?_⟩
  obtain ⟨m1, m2, m3⟩ := hk p hp'
  have hlt : p.1 < w.heap.size := (Array.getElem?_eq_some_iff.1 m3).1
  exact ⟨m1, h2 _ hlt m2, (hl.2.block _ hlt m2).trans m3⟩
theorem WR.under {w' : World} (h : WR n bp br K B L B' L' w0 w) (hbw : Below w.heap.size w w') : WR n bp br K B L B' L' w0 w' := by
  obtain ⟨S, Q, hp, hn, hb, hk⟩ := h
  refine ⟨S, Q, hp.below hbw, Nat.le_trans hn hbw.size, hb.trans (hbw.mono hn), fun p hp' => ?_⟩
  obtain ⟨m1, m2, m3⟩ := hk p hp'
  exact ⟨m1, m2, (hbw.block _ (Array.getElem?_eq_some_iff.1 m3).1).trans m3⟩
theorem WR.more {w' : World} {g : Nat} {o : Obj} (h : WR n bp br K B L B' L' w0 w) (hbw : Below w.heap.size w w') (hg : w.heap.size ≤ g) (ho : w'.heap[g]? = some o) : WR n bp br ((g, o) :: K) B L B' L' w0 w' := by
  obtain ⟨S, Q, hp, hn, hb, hk⟩ := h
  refine ⟨S, Q, hp.below hbw, Nat.le_trans hn hbw.size, hb.trans (hbw.mono hn), fun p hp' => ?_⟩
  rcases List.mem_cons.1 hp' with rfl | hp'
  · exact ⟨fun hs => by have := (hp.hp _ hs).2; simp only at this; omega, fun hs => by have := (hp.hq _ hs).2; simp only at this; omega, ho⟩
  · obtain ⟨m1, m2, m3⟩ := hk p hp'
    exact ⟨m1, m2, (hbw.block _ (Array.getElem?_eq_some_iff.1 m3).1).trans m3⟩
theorem WR.ce {g : Nat} {T : TypeId} {cs : Array Value} (h : WR n bp br K B L B' L' w0 w) (hm : (g, Obj.cells cs T (0, 0)) ∈ K) : Ce w g T cs := by
  obtain ⟨S, Q, _, _, _, hk⟩ := h
  exact (hk _ hm).2.2
theorem WR.forget (h : WR n bp br K B L B' L' w0 w) : WR n bp br [] B L B' L' w0 w :=
  let ⟨S, Q, h1, h2, h3, _⟩ := h
  ⟨S, Q, h1, h2, h3, fun p hp => by cases hp⟩
theorem WR.head (h : WR n bp br K B L B' L' w0 w) : w.cell? ⟨br, 0, none⟩ = some (str B') := by
  obtain ⟨S, Q, h1, _⟩ := h
  obtain ⟨lv, hr⟩ := h1.r
  exact hr.blk.cell0
theorem WR.below (h : WR n bp br K B L B' L' w0 w) : Below n w0 w := let ⟨_, _, _, _, h, _⟩ := h; h
theorem wr_put (r : Rc) (hr : r.Ok) (h : WR n bp br K B L B' L' w0 w) (hf : Fit B L) (hB : B.length ≤ 800000) :
    Calls Try.prog 24 #[ptr bp, r.v] w fun e w' => e = .returned (.int .i64 (rck r)) ∧ WR n bp br K (rpB B L r) (rpL B L r) B' L' w0 w' := by
  obtain ⟨S, h1, h2⟩ := h.left
  exact (putrec_any r hr S bp B L w h1 hf hB).mono fun e w' ⟨h3, h4⟩ => ⟨h3, h2 _ _ _ h4⟩
theorem wr_rput (r : Rc) (hr : r.Ok) (hn : r.n.size ≤ 1000000) (h : WR n bp br K B L B' L' w0 w) (hf : Fit B' L') (hB : B'.length ≤ 800000) :
    Calls Try.prog 25 #[ptr br, r.v] w fun e w' => e = .returned (.int .i64 (rck r)) ∧ WR n bp br K B L (rpB B' L' r) (rpL B' L' r) w0 w' := by
  obtain ⟨S, h1, h2⟩ := h.right
  exact (rputrec_any r hr hn S br B' L' w h1 hf hB).mono fun e w' ⟨h3, h4⟩ => ⟨h3, h2 _ _ _ h4⟩
theorem wr_len (h : WR n bp br K B L B' L' w0 w) : Calls Try.prog 26 #[ptr bp] w fun e w' => e = .returned (.int .i64 (B.length : Int)) ∧ w = w' := by
  obtain ⟨S, h1, _⟩ := h.left
  exact plen_any S bp B L w h1
theorem wr_bytes (h : WR n bp br K B L B' L' w0 w) : Calls Try.prog 27 #[ptr bp] w fun e w' => e = .returned (str B) ∧ w = w' := by
  obtain ⟨S, h1, _⟩ := h.left
  exact pbytes_any S bp B L w h1
end
/-- The document's packer with bytes ahead. -/
theorem rk_text (w : World) (t : ByteArray) : RK (w.heap.size ≤ ·) w.heap.size t.data.toList [] (w.alloc (.cells #[.string t, .slice none 0 0] 48)) :=
  ⟨_, heap_alloc_new w _, World.ownsRow_nil _ _ _ _, fun k hk => by simp [Value.ownBlock] at hk, Nat.le_refl _⟩
theorem wr_start {w w1 : World} (t : ByteArray) (h1 : PK (w.heap.size ≤ ·) w.heap.size [] [] w1) (hb1 : Below w.heap.size w w1) : WR w.heap.size w.heap.size w1.heap.size [] [] [] t.data.toList [] w (w1.alloc (.cells #[.string t, .slice none 0 0] 48)) := by
  have hb2 := one_box w1 (.cells #[.string t, .slice none 0 0] 48)
  have h1' := h1.lt.below hb2
  refine ⟨_, _, ⟨h1', (rk_text w1 t).lt, ?_, ?_, ?_⟩, Nat.le_trans hb1.size hb2.size, hb1.trans (hb2.mono hb1.size), fun p hp => by cases hp⟩
  · rintro k ⟨hk, hk2⟩; exact ⟨hk, Nat.lt_of_lt_of_le hk2 hb2.size⟩
  · rintro k ⟨hk, hk2⟩; exact ⟨Nat.le_trans hb1.size hk, hk2⟩
  · rintro k ⟨hk, hk2⟩ ⟨hk3, _⟩; omega
set_option maxRecDepth 100000 in
set_option maxHeartbeats 25600000 in
theorem lawWrites_any (s : ByteArray) (a : Option Addr) (len cap : Nat) (w : World) (hc : Camr w a len) :
    Calls Try.prog 5 #[.string s, .slice a len cap] w fun e w' => e = .returned (.bool true) ∧ Below w.heap.size w w' := by
  obtain ⟨t, ht, hsh⟩ := short_any s 50
  have HSH := Lib.hid hsh
  have HCM := Lib.hid hc
  clear hsh hc
  go_enter Try.func5, Try.ntmps5
  go_wp2_with fail
  refine (awake_any w).mono ?_
  rintro e w1 ⟨rfl, hb1⟩
  go_wp2_with fail
  refine (HSH.out _).mono ?_
  rintro e w' ⟨rfl, rfl⟩
  go_wp2_with fail
  refine (new_any w1).mono ?_
  rintro e w2 ⟨rfl, hp2, hb2⟩
  have hW2 := wr_start t hp2 hb2
  obtain ⟨S2, hq2, hs2⟩ := hW2.left
  have HS2 := Lib.hid hs2
  have HB1 := Lib.hid hb1
  clear hb1 hp2 hb2 hW2 hs2
  go_wp2_with fail
  refine (praw_any t S2 _ [] [] _ hq2 (by simp; omega)).mono ?_
  rintro e w3 ⟨⟨v, rfl⟩, hl3⟩
  have h3 := HS2.out _ _ _ hl3
  rw [List.nil_append] at h3
  have HI := Lib.hid h3
  have HT := Lib.hid ht
  clear h3 hl3 HS2 hq2
  go_wp2
  go_loopw [8] (fun i wr => ∃ (k : Nat) (B : Bs) (L : Kn), k ≤ len ∧ k ≤ 20 ∧ i = .int .i64 k ∧ WR w1.heap.size w1.heap.size w2.heap.size [] B L B L w1 wr ∧ Fit B L ∧ B.length ≤ 50 + 2300 * k) (fun i _ => 20 - (intOf i).toNat)
  case atStart => exact ⟨0, _, _, by omega, by omega, rfl, HI.out, ⟨by simp, okK_nil⟩, by rw [← size_list]; omega⟩
  case round =>
    clear HI
    obtain ⟨k, B, L, hk, hk20, rfl, hI, hF, hBl⟩ := hrel
    by_cases hlt : k < len ∧ k < 20
    · obtain ⟨hl1, hl2⟩ := hlt
      have q1 : (k : Int) < (len : Int) := by omega
      have q2 : (k : Int) < 20 := by omega
      obtain ⟨ab, off, rf, rfl, hab, hnum, hcells⟩ : ∃ b off, ∃ rs : Nat → Rc, a = some ⟨b, off, none⟩ ∧ b < w.heap.size ∧ (∀ k, (rs k).Num) ∧ ∀ k, k < len → RcAt w b (off + k * 5) (rs k) := by
        rcases HCM.out with h | h
        · omega
        · exact h
      obtain ⟨c0, c1, c2, c3, c4⟩ := hcells k hl1
      have hbw := HB1.out.trans (hI.below.mono HB1.out.size)
      have d0 := (hbw.cell (p := ⟨ab, off + k * 5, none⟩) hab).trans c0
      have d1 := (hbw.cell (p := ⟨ab, off + k * 5 + 1, none⟩) hab).trans c1
      have d2 := (hbw.cell (p := ⟨ab, off + k * 5 + 2, none⟩) hab).trans c2
      have d3 := (hbw.cell (p := ⟨ab, off + k * 5 + 3, none⟩) hab).trans c3
      have d4 := (hbw.cell (p := ⟨ab, off + k * 5 + 4, none⟩) hab).trans c4
      obtain ⟨q, k1, k2, k3, k4, k5, hsm⟩ := small_any (rf k)
      have hnk := hnum k
      have hqo : q.Ok := ⟨by omega, by omega, k3 ▸ hnk.t, k4 ▸ hnk.c, k5 ▸ hnk.l⟩
      generalize rf k = r0 at d0 d1 d2 d3 d4 hsm
      obtain ⟨n, ty, c, l, d⟩ := r0
      simp only at d0 d1 d2 d3 d4
      have hB8 : B.length ≤ 800000 := by omega
      have hfit := rp_fit (r := q) hF
      have HNX := Lib.hid (show Fit (rpB B L q) (rpL B L q) ∧ (rpB B L q).length ≤ 50 + 2300 * (k + 1) from ⟨hfit.1, by have := hfit.2.2; omega⟩)
      have H24 : Hid (∀ (K : List (Nat × Obj)) (B' : Bs) (L' : Kn) (v : World), WR w1.heap.size w1.heap.size w2.heap.size K B L B' L' w1 v → _) := Lib.hid (fun K B' L' v h => wr_put q hqo h hF hB8)
      have H25 : Hid (∀ (K : List (Nat × Obj)) (B' : Bs) (L' : Kn) (v : World), WR w1.heap.size w1.heap.size w2.heap.size K B' L' B L w1 v → _) := Lib.hid (fun K B' L' v h => wr_rput q hqo (by omega) h hF hB8)
      generalize rpB B L q = B1 at H24 H25 HNX
      generalize rpL B L q = L1 at H24 H25 HNX
      generalize rck q = ck at H24 H25
      obtain ⟨qn, qt, qc, ql, qd⟩ := q
      have HSM := Lib.hid hsm
      have HI := Lib.hid hI
      clear c0 c1 c2 c3 c4 hcells hnum hnk k1 k2 k3 k4 k5 hsm hqo hI hbw hfit hB8 hF hBl
      go_wp2_with fail
      refine (HSM.out _).mono ?_
      rintro e w4 ⟨rfl, hb4⟩
      have h4 := (HI.out.under hb4).more (one_box w4 (.cells #[.string qn, .int .u16 (qt : Int), .int .u16 (qc : Int), .int .u32 (ql : Int), .string qd] 25)) (Nat.le_refl _) (World.alloc_heap_new w4 _)
      clear hb4 d0 d1 d2 d3 d4 HI
      go_wp2
      generalize World.alloc w4 _ = w5 at h4 ⊢
      have h5 := h4.under (Below.refl _ w5).drew
      obtain ⟨x0, x1, x2, x3, x4⟩ := c5 (h5.ce (List.mem_cons_self ..))
      have HD := Lib.hid h5
      clear h4 h5
      go_region_with (first
        | (go_at_call 24; (first | (refine (H24.out _ _ _ _ HR1.out).mono ?_; rintro e z2 ⟨rfl, h2⟩; have y0 := h2.head; have HW2 := Lib.hid h2; clear h2) | (refine (H24.out _ _ _ _ HD.out).mono ?_; rintro e z1 ⟨rfl, h1⟩; obtain ⟨e0, e1, e2, e3, e4⟩ := c5 (h1.ce (List.mem_cons_self ..)); have HL1 := Lib.hid h1; clear h1)))
        | (go_at_call 25; (first | (refine (H25.out _ _ _ _ HL1.out).mono ?_; rintro e z2 ⟨rfl, h2⟩; have y0 := h2.head; have HW2 := Lib.hid h2; clear h2) | (refine (H25.out _ _ _ _ HD.out).mono ?_; rintro e z1 ⟨rfl, h1⟩; obtain ⟨e0, e1, e2, e3, e4⟩ := c5 (h1.ce (List.mem_cons_self ..)); have HR1 := Lib.hid h1; clear h1)))
        | (go_at_call 26; refine (wr_len HW2.out).mono ?_; rintro e z3 ⟨rfl, rfl⟩))
      all_goals go_wp2
      all_goals go_roundw
      all_goals (first | exact ⟨k + 1, _, _, by omega, by omega, by go_num, HW2.out.forget, HNX.out.1, HNX.out.2⟩ | (simp [intOf]; omega))
    · have qq : (decide ((k : Int) < (len : Int)) = false ∧ decide (k < len) = false) ∨ ((k : Int) < (len : Int) ∧ decide (k < len) = true ∧ decide ((k : Int) < 20) = false) := by
        by_cases h : k < len
        · exact .inr ⟨by omega, by simp; omega, by simp; omega⟩
        · exact .inl ⟨by simp; omega, by simp; omega⟩
      have h9 := hI.under (Below.refl _ wr).drew
      have y0 := h9.head
      have HBW := Lib.hid (HB1.out.trans (h9.below.mono HB1.out.size))
      have CB := wr_bytes h9
      obtain ⟨X, hX⟩ : ∃ X : ByteArray, (⟨B.toArray⟩ : ByteArray) = X := ⟨_, rfl⟩
      rw [show str B = .string X by rw [← hX]] at CB y0
      have HCB := Lib.hid CB
      clear CB hX hI h9 hF hBl
      rcases qq with ⟨q1, q1n⟩ | ⟨q1, q1n, q2⟩
      all_goals
        go_wp2
        go_region_held3 (fun w' => w'.cell? ⟨w2.heap.size, 0, none⟩ = some (.string X)) (exact y0) (first | (go_at_call 27; refine HCB.out.mono ?_; rintro e v7 ⟨rfl, rfl⟩))
        all_goals go_wp2
        all_goals go_ret
        all_goals exact ⟨rfl, HBW.out⟩
end Go.Proofs.Ytflpceaaelampaa
