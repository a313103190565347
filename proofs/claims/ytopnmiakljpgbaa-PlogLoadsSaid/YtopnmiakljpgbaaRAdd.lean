/-
  The document's Add.
-/
import Derived.Test.YtopnmiakljpgbaaDRdr
namespace Go.Proofs.Ytopnmiakljpgbaa
open Go.RowKit
set_option maxRecDepth 100000 in
set_option maxHeartbeats 6400000 in
theorem radd_any {w : World} {base bt : Int} {a : Option Addr} {n cap : Nat} {L M : List En} {u : Value} (h : RdE w (.slice a n cap) L) (hu : RdE w u M) (hl : L.length ≤ 100000) (hm : M.length ≤ 100000) :
    Calls Try.prog 63 #[lv base bt (.slice a n cap), u] w fun e w' => ∃ v', e = .returned (lv base bt v') ∧ OwnE w' w.heap.size v' (L ++ M) ∧ Below w.heap.size w w' := by
  have hn := h.len
  subst hn
  obtain ⟨ua, uc, rfl, _⟩ := hu.shape
  have H3 := Lib.hid (three_new w #[it base, it bt, .slice a L.length cap] #[it 0, it 0, .slice none 0 0] #[it base, it bt, .slice none 0 0] 24 24 24)
  have HL := Lib.hid h
  have HU := Lib.hid hu
  have HLL : Hid (([] : List En).length + L.length ≤ 1000000) := Lib.hid (by simp; omega)
  have HLM : Hid (L.length + M.length ≤ 1000000) := Lib.hid (by omega)
  obtain ⟨m, hmm⟩ : ∃ m, m = L.length := ⟨_, rfl⟩
  obtain ⟨z, hzz⟩ : ∃ z, z = M.length := ⟨_, rfl⟩
  rw [← hmm] at H3 HL ⊢
  rw [← hzz] at HU ⊢
  clear h hu hmm hzz hl hm
  go_enter Try.func63, Try.ntmps63
  go_upto_region 2 with fail
  obtain ⟨wA, hwA⟩ : ∃ wA, wA = ((w.alloc (.cells #[it base, it bt, .slice a m cap] 24)).alloc (.cells #[it 0, it 0, .slice none 0 0] 24)).alloc (.cells #[it base, it bt, .slice none 0 0] 24) := ⟨_, rfl⟩
  rw [← hwA] at H3 ⊢
  clear hwA
  obtain ⟨B, hB⟩ : ∃ B, B = w.heap.size := ⟨_, rfl⟩
  rw [← hB] at H3
  have HBB := Lib.hid hB
  rw [show w.heap.size + 1 + 1 = w.heap.size + 2 from rfl]
  rw [← hB]
  clear hB
  obtain ⟨a1, a2, a3, a4, a5⟩ := H3.out
  have HA1 := Lib.hid a1
  have HA2 := Lib.hid a2
  have HA3 := Lib.hid a3
  have HA4 : Hid (B + 3 ≤ wA.heap.size) := Lib.hid (Nat.le_of_eq a4.symm)
  have HB := Lib.hid a5
  clear a1 a2 a3 a4 a5 H3
  have hlA := HL.out.below (by rw [← HBB.out]; exact HB.out)
  have huA := HU.out.below (by rw [← HBB.out]; exact HB.out)
  have HLA := Lib.hid hlA
  have HUA := Lib.hid huA
  clear hlA huA
  obtain ⟨c0, c1, c2⟩ := c3 HA1.out
  obtain ⟨e0, e1, e2⟩ := c3 HA3.out
  obtain ⟨f0, f1, f2⟩ := f3 HA3.out
  go_wp2_with (at_builtin; refine wp_app_own rfl (.tmp 12) (.tmp 14) rfl rfl (B + 3) _ [] L rfl (ownE_nil _ _) _ rfl HLA.out HLL.out HA4.out ?_)
  intro v1 w1 ho1 hb1
  obtain ⟨x1, y1, rfl, _⟩ := ho1.rd.shape
  have HK1 := Lib.hid (fun (b : Nat) (cs : Array Value) (hb : b < B + 3) (h : Ce wA b 24 cs) => (show Ce w1 b 24 cs from (hb1.block b hb).trans h))
  have HO1 := Lib.hid ho1
  have HB1 := Lib.hid (HB.out.trans (hb1.mono (by omega)))
  have HS1 : Hid (B + 3 ≤ w1.heap.size) := Lib.hid (by have := hb1.size; have := HA4.out; omega)
  obtain ⟨l1, hl1⟩ : ∃ l1, l1 = L.length := ⟨_, rfl⟩
  rw [← hl1] at HO1 ⊢
  clear hl1
  clear ho1 hb1 c0 c1 c2 e0 e1 e2 f0 f1 f2
  obtain ⟨e0, e1, e2⟩ := c3 (HK1.out _ _ (by omega) HA3.out)
  obtain ⟨f0, f1, f2⟩ := f3 (HK1.out _ _ (by omega) HA3.out)
  go_upto_region 3 with fail
  generalize hw2 : World.setCell w1 _ _ = w2
  have HA32 : Hid (Ce w2 (B + 2) 24 #[it base, it bt, .slice x1 l1 y1]) := Lib.hid (by rw [← hw2]; exact (HK1.out _ _ (by omega) HA3.out).set _ (i := 2))
  have HA22 : Hid (Ce w2 (B + 1) 24 #[it 0, it 0, .slice none 0 0]) := Lib.hid (by rw [← hw2]; exact (HK1.out _ _ (by omega) HA2.out).other (by omega) _)
  have HO2 : Hid (OwnE w2 (B + 3) (.slice x1 l1 y1) L) := Lib.hid (by rw [← hw2]; exact HO1.out.set (b := B + 2) (i := 2) (by omega) (.slice x1 l1 y1))
  have HB2 : Hid (Below B w w2) := Lib.hid (by rw [← hw2]; exact HB1.out.setCell (p := ⟨B + 2, 2, none⟩) (by show B ≤ B + 2; omega) _)
  have HS2 : Hid (B + 3 ≤ w2.heap.size) := Lib.hid (by rw [← hw2]; simpa using HS1.out)
  have HU2 := Lib.hid (HU.out.below (show Below w.heap.size w w2 by rw [← HBB.out]; exact HB2.out))
  clear hw2 e0 e1 e2 f0 f1 f2
  obtain ⟨e0, e1, e2⟩ := c3 HA32.out
  obtain ⟨f0, f1, f2⟩ := f3 HA32.out
  go_wp2_with (at_builtin; refine wp_app_own rfl (.tmp 18) (.tmp 19) rfl rfl (B + 3) _ L M rfl HO2.out _ rfl HU2.out HLM.out HS2.out ?_)
  intro v3 w3 ho3 hb3
  obtain ⟨x3, y3, rfl, _⟩ := ho3.rd.shape
  have HA33 := Lib.hid (show Ce w3 (B + 2) 24 _ from (hb3.block (B + 2) (by omega)).trans HA32.out)
  have HA23 := Lib.hid (show Ce w3 (B + 1) 24 _ from (hb3.block (B + 1) (by omega)).trans HA22.out)
  have HO3 := Lib.hid ho3
  have HB3 := Lib.hid (HB2.out.trans (hb3.mono (by omega)))
  generalize (L ++ M).length = l3 at *
  clear ho3 hb3 e0 e1 e2 f0 f1 f2
  obtain ⟨e0, e1, e2⟩ := c3 HA33.out
  obtain ⟨f0, f1, f2⟩ := f3 HA33.out
  obtain ⟨d0, d1, d2⟩ := c3 HA23.out
  obtain ⟨g0, g1, g2⟩ := f3 HA23.out
  go_wp2
  refine bodyPost_ret (resL rfl rfl (set3_ce (HA23.out.other (by omega) _ (i := 2)) _ _ _)) rfl ?_
  refine ⟨_, rfl, ((HO3.out.set (by omega) _).set3 (by omega) _ _ _).weak (by have := HBB.out; omega), ?_⟩
  have := ((((HB3.out.setCell (p := ⟨B + 2, 2, none⟩) (by show B ≤ B + 2; omega) (.slice x3 l3 y3)).setCell (p := ⟨B + 1, 0, none⟩) (by show B ≤ B + 1; omega) (it base)).setCell (p := ⟨B + 1, 1, none⟩) (by show B ≤ B + 1; omega) (it bt)).setCell (p := ⟨B + 1, 2, none⟩) (by show B ≤ B + 1; omega) (.slice x3 l3 y3))
  rw [← HBB.out]
  exact this
end Go.Proofs.Ytopnmiakljpgbaa
