/-
  The records of a log's entries.
-/
import Derived.Test.YtopnmiakljpgbaaFullRec
namespace Go.Proofs.Ytopnmiakljpgbaa
open Go.RowKit
def entB (i : Int) (e : En) : Bs := 69 :: (numsB [i, e.term] ++ [lowB e.kind] ++ e.data.data.toList)
def entsB (base : Int) : List En → List Bs
  | [] => []
  | e :: r => entB (base + 1) e :: entsB (base + 1) r
theorem entsB_snoc (e : En) : ∀ (L : List En) (base : Int), entsB base (L ++ [e]) = entsB base L ++ [entB (base + L.length + 1) e]
  | [], base => by simp [entsB]
  | x :: r, base => by
    show entB (base + 1) x :: entsB (base + 1) (r ++ [e]) = _
    rw [entsB_snoc e r (base + 1)]
    simp [entsB]
    congr 1
    omega
theorem entsB_len : ∀ (L : List En) (base : Int), (entsB base L).length = L.length
  | [], _ => rfl
  | _ :: r, base => by simp [entsB, entsB_len r (base + 1)]
abbrev tv (T : List Bs) : List Value := T.map str
theorem byte_back (w : World) (b : UInt8) : (convert 75 9 (.slice (some ⟨w.heap.size, 0, none⟩) 1 1)).run Try.prog (w.alloc (.cells #[.int .u8 (b.toNat : Int)] 5)) = .ok (.string ⟨#[b]⟩) (w.alloc (.cells #[.int .u8 (b.toNat : Int)] 5)) :=
  run_convert_bytes_back (P := Try.prog) (w.alloc (.cells #[.int .u8 (b.toNat : Int)] 5)) 75 9 5 ⟨w.heap.size, 0, none⟩ 1 [b] Try.underlying75 Try.underlying5 Try.underlying9 (fun j hj => by
    have : j = 0 := by simpa using hj
    subst this
    have := World.news_of_block (cs := #[Value.int .u8 (b.toNat : Int)]) (t := 5) (fr := (0, 0)) (heap_alloc_new w _) 0 (.int .u8 (b.toNat : Int)) rfl
    exact this)
set_option maxRecDepth 100000 in
set_option maxHeartbeats 6400000 in
theorem entRecs_any {w : World} {base bt : Int} {a : Option Addr} {n cap : Nat} {L : List En} (h : RdE w (.slice a n cap) L) (hb : -1000 ≤ base ∧ base ≤ 1125899906842624) (k : Nat) (hk : k ≤ L.length) (hl : L.length ≤ 100000) (hd : ∀ e ∈ L, e.data.size ≤ 100000) :
    Calls Try.prog 53 #[lv base bt (.slice a n cap), it k] w fun e w' => ∃ v, e = .returned v ∧ OwnV w' w.heap.size 9 v (tv (entsB (base + k) (L.drop k))) ∧ Below w.heap.size w w' := by
  obtain ⟨a', hrun, hR⟩ := slice_from h k hk
  obtain ⟨_, _, he, hnc, _⟩ := h
  cases he
  obtain ⟨D, hD⟩ : ∃ D, D = L.drop k := ⟨_, rfl⟩
  have hdl : D.length = L.length - k := by rw [hD, List.length_drop]
  have hdd : ∀ e ∈ D, e.data.size ≤ 100000 := fun e he => hd e (List.mem_of_mem_drop (by rw [← hD]; exact he))
  rw [← hD, ← hdl] at hR
  rw [← hdl] at hrun
  rw [← hD]
  obtain ⟨n, hn⟩ : ∃ n, n = L.length := ⟨_, rfl⟩
  obtain ⟨m, hm⟩ : ∃ m, m = D.length := ⟨_, rfl⟩
  rw [← hn] at hrun hl hk hdl hnc ⊢
  rw [← hm] at hrun hR hdl
  have HR := Lib.hid hR
  have HM := Lib.hid hm
  have HML : Hid (m ≤ 100000) := Lib.hid (by omega)
  have HDD := Lib.hid hdd
  obtain ⟨bk, hbk⟩ : ∃ bk : Int, bk = base + (k : Int) := ⟨_, rfl⟩
  have hbk1 : -1000 ≤ bk ∧ bk ≤ 1125899907000000 := by omega
  have hw1 : IntKind.i64.wrap (base + (k : Int)) = bk := by unfold IntKind.wrap; simp only [IntKind.bits, IntKind.signed]; simp; omega
  rw [← hbk]
  have q0 : (0 : Int) ≤ (k : Int) := by omega
  have q1 : (k : Int) ≤ (n : Int) := by omega
  have q2 : k ≤ n := hk
  have q3 : (n : Int) ≤ (cap : Int) := by omega
  have HBK := Lib.hid hbk1
  clear hR hm hD hd hdl hdd hn hl hk hbk hbk1
  go_enter Try.func53, Try.ntmps53
  have hce : Ce (w.alloc (.cells #[it base, it bt, .slice a n cap] 24)) w.heap.size 24 #[it base, it bt, .slice a n cap] := Ce.new _ _ _
  have HCE := Lib.hid hce
  have HB1 := Lib.hid (one_new w (.cells #[it base, it bt, .slice a n cap] 24))
  have HR1 := Lib.hid (HR.out.below HB1.out)
  clear HR hce
  go_upto_region 3 with fail
  obtain ⟨w1, hw1'⟩ : ∃ w1, w1 = w.alloc (.cells #[it base, it bt, .slice a n cap] 24) := ⟨_, rfl⟩
  obtain ⟨B, hB⟩ : ∃ B, B = w.heap.size := ⟨_, rfl⟩
  obtain ⟨s1, hs1⟩ : ∃ s, s = w1.heap.size := ⟨_, rfl⟩
  have hs2 : s1 = B + 1 := by rw [hs1, hw1', hB, alloc_size]
  rw [← hw1'] at HCE HB1 HR1 ⊢
  rw [← hB] at HCE ⊢
  have HS := Lib.hid hs1
  have HS2 := Lib.hid hs2
  have HBB := Lib.hid hB
  clear hw1' hB hs1 hs2
  go_loopw [5, 6, 7, 8, 14] (fun ov _ _ _ i wr => ∃ k : Nat, k ≤ m ∧ i = it (k : Int) ∧ OwnV wr s1 9 ov (tv (entsB bk (D.take k))) ∧ Below w1.heap.size w1 wr) (fun _ _ _ _ i _ => m - (intOf i).toNat)
  case atStart => exact ⟨0, by omega, rfl, OwnV.nil _ _ _, Below.refl _ _⟩
  case round =>
    obtain ⟨j, hj, rfl, ho, hbr⟩ := hrel
    by_cases hlt : j < m
    · have p1 : (j : Int) < (m : Int) := by omega
      obtain ⟨x, hx⟩ : ∃ x, D[j]? = some x := ⟨_, List.getElem?_eq_getElem (by have := HM.out; omega)⟩
      obtain ⟨e1, g, o, rfl, hg, c0, c1, c2⟩ := HR1.out.at hx
      have c0 := (hbr.cell (p := ⟨g, o + j * 3, none⟩) hg).trans c0
      have c1 := (hbr.cell (p := ⟨g, o + j * 3 + 1, none⟩) hg).trans c1
      have c2 := (hbr.cell (p := ⟨g, o + j * 3 + 2, none⟩) hg).trans c2
      obtain ⟨d0, d1, d2⟩ := c3 (HCE.out.below hbr)
      obtain ⟨oa, oc, rfl, _⟩ := ho.shape
      have hxd : x.data.size ≤ 100000 := HDD.out x (List.mem_of_getElem? hx)
      have hlen : (tv (entsB bk (D.take j))).length = j := by simp [entsB_len]; have := HM.out; omega
      have hend : tv (entsB bk (D.take j)) ++ [str (entB (bk + j + 1) x)] = tv (entsB bk (D.take (j + 1))) := by
        rw [take_succ_of hx, entsB_snoc]
        have : (D.take j).length = j := by rw [List.length_take]; have := HM.out; omega
        simp [this]
      obtain ⟨T, hT⟩ : ∃ T, T = tv (entsB bk (D.take j)) := ⟨_, rfl⟩
      rw [hlen] at ho ⊢
      rw [← hT] at ho hlen hend
      have HO := Lib.hid ho
      have HL := Lib.hid hlen
      have HE := Lib.hid hend
      have HBR := Lib.hid hbr
      have hml := HML.out
      have hbk1 := HBK.out
      have w2' : IntKind.i64.wrap (bk + (j : Int)) = bk + j := by unfold IntKind.wrap; simp only [IntKind.bits, IntKind.signed]; simp; omega
      obtain ⟨ix, hix⟩ : ∃ ix : Int, ix = bk + j + 1 := ⟨_, rfl⟩
      have w3' : IntKind.i64.wrap (bk + (j : Int) + 1) = ix := by rw [hix]; unfold IntKind.wrap; simp only [IntKind.bits, IntKind.signed]; simp; omega
      rw [← hix] at HE
      clear e1 hbr ho hx hlen hend hT hml hbk1 hix
      obtain ⟨wE, hwE⟩ : ∃ wE, wE = wr.alloc (.cells #[it x.term, it x.kind, .string x.data] 31) := ⟨_, rfl⟩
      have hce2 : Ce wE wr.heap.size 31 #[it x.term, it x.kind, .string x.data] := by rw [hwE]; exact Ce.new _ _ _
      have hbe : Below wr.heap.size wr wE := by rw [hwE]; exact one_new _ _
      have hsz : wE.heap.size = wr.heap.size + 1 := by rw [hwE, alloc_size]
      have hn2 := rdN_new wE [ix, x.term] (by simp)
      obtain ⟨sN, hN⟩ : ∃ N : ByteArray, N = ⟨(numsB [ix, x.term]).toArray⟩ := ⟨_, rfl⟩
      have hcall := nums_any hn2 (by simp)
      unfold str at hcall
      rw [← hN] at hcall
      have hb2 := one_new wE (.cells (ivs [ix, x.term]).toArray 3)
      have HCALL := Lib.hid hcall
      have HCX := Lib.hid hce2
      have HBE := Lib.hid hbe
      have HBE2 := Lib.hid (hbe.trans (hb2.mono hbe.size))
      have hNl : sN.size = 16 := by rw [hN, ba_len, numsB_len]; rfl
      have hby : x.kind % 256 = ((lowB x.kind).toNat : Int) := by rw [← wrap_low]; rfl
      obtain ⟨s1', h1⟩ : ∃ s : ByteArray, s = ⟨#[69]⟩ ++ sN := ⟨_, rfl⟩
      have z1 : s1'.size = 17 := by rw [h1, ByteArray.size_append, hNl]; rfl
      obtain ⟨s2', h2⟩ : ∃ s : ByteArray, s = s1' ++ ⟨#[lowB x.kind]⟩ := ⟨_, rfl⟩
      have z2 : s2'.size = 18 := by rw [h2, ByteArray.size_append, z1]; rfl
      obtain ⟨s3', h3⟩ : ∃ s : ByteArray, s = s2' ++ x.data := ⟨_, rfl⟩
      have hR3 : s3' = ⟨(entB ix x).toArray⟩ := by
        rw [h3, h2, h1, hN, ba_of x.data, show (⟨#[69]⟩ : ByteArray) = ⟨([69] : Bs).toArray⟩ from rfl, show (⟨#[lowB x.kind]⟩ : ByteArray) = ⟨([lowB x.kind] : Bs).toArray⟩ from rfl, ba_app, ba_app, ba_app]
        simp [entB]
      have add1 := add_str h1 (by decide) (by omega)
      have add2 := add_str h2 (by omega) (by simp [ByteArray.size])
      have add3 := add_str h3 (by omega) (by omega)
      unfold str at HE
      rw [← hR3] at HE
      clear hce2 hbe hsz hn2 hN hcall hb2 hNl h1 h2 h3 z1 z2 hR3 hxd
      have HWE := Lib.hid hwE
      clear hwE
      go_upto_region 5 with fail
      rw [← HWE.out]
      clear d0 d1 d2 c0 c1 c2
      obtain ⟨d0, d1, d2⟩ := c3 (HCE.out.below (HBR.out.trans (HBE.out.mono HBR.out.size)))
      obtain ⟨c0, c1, c2⟩ := c3 HCX.out
      clear HWE
      go_wp2_with fail
      refine HCALL.out.mono ?_
      rintro e w2 ⟨rfl, hb2⟩
      have HB2 := Lib.hid (HBE2.out.trans (hb2.mono HBE2.out.size))
      have HX2 := Lib.hid (HCX.out.below ((one_new wE (.cells (ivs [ix, x.term]).toArray 3)).trans (hb2.mono (one_new wE (.cells (ivs [ix, x.term]).toArray 3)).size)))
      clear hb2 HCALL HBE2 HBE HCX
      have hb3 := one_new w2 (.cells #[.int .u8 ((lowB x.kind).toNat : Int)] 5)
      have hb4 := one_new (w2.alloc (.cells #[.int .u8 ((lowB x.kind).toNat : Int)] 5)) (.cells #[.string s3'] 9)
      have hcv := byte_back w2 (lowB x.kind)
      clear c0 c1 c2 d0 d1 d2
      obtain ⟨c0, c1, c2⟩ := c3 HX2.out
      have HO2 := Lib.hid ((HO.out.below HB2.out).below hb3)
      have hs : s1 ≤ (w2.alloc (.cells #[.int .u8 ((lowB x.kind).toNat : Int)] 5)).heap.size := by have := HBR.out.size; have := HB2.out.size; have := HS.out; rw [alloc_size]; omega
      have HLN : Hid (T.length ≤ 1000000) := Lib.hid (by have := HL.out; have := HML.out; omega)
      have HB34 := Lib.hid (HB2.out.trans (hb3.mono HB2.out.size))
      have hx2 : (w2.alloc (.cells #[.int .u8 ((lowB x.kind).toNat : Int)] 5)).cell? ⟨wr.heap.size, 2, none⟩ = some (.string x.data) := (hb3.cell (p := ⟨wr.heap.size, 2, none⟩) HX2.out.lt).trans c2
      have HBR1 := Lib.hid (HBR.out.trans (HB34.out.mono HBR.out.size))
      clear hb3 hb4
      go_wp2_with (at_builtin; refine wp_app_one 50 9 _ 16 Try.underlying50 info9 rfl (by decide) rfl (.tmp 30) (.tmp 42) rfl s1 _ T rfl HO2.out _ rfl (by rw [alloc_size]; rfl) HLN.out hs ?_)
      intro v' w3 ho3 hb5
      rw [HE.out] at ho3
      have HO3 := Lib.hid ho3
      have HB5 := Lib.hid (HBR1.out.trans (by rw [HS.out] at hb5; exact hb5))
      have hml := HML.out
      have hwj : IntKind.i64.wrap ((j : Int) + 1) = ((j + 1 : Nat) : Int) := by unfold IntKind.wrap; simp only [IntKind.bits, IntKind.signed]; simp; omega
      clear ho3 hb5 hs hx2 c0 c1 c2 hml
      go_wp2
      go_roundw
      case rel => exact ⟨j + 1, by omega, rfl, HO3.out, HB5.out⟩
      case measure => simp [intOf]; omega
    · have p1 : decide ((j : Int) < (m : Int)) = false := decide_eq_false (by omega)
      have p2 : decide (j < m) = false := decide_eq_false (by omega)
      rw [show D.take j = D from List.take_of_length_le (by have := HM.out; omega)] at ho
      have HO := Lib.hid (ho.weak (base' := B) (by have := HS2.out; omega))
      have HB := Lib.hid (HB1.out.trans (hbr.mono HB1.out.size))
      clear ho hbr
      go_wp2
      go_ret
      exact ⟨_, rfl, by rw [← HBB.out]; exact HO.out, HB.out⟩
end Go.Proofs.Ytopnmiakljpgbaa
