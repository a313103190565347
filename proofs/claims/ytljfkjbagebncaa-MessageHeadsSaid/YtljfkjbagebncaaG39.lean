/-
  RAlike: The document's Same answers yes where two messages are the same. No older memory is changed.
-/
import Derived.Test.YtljfkjbagebncaaG34
import Derived.Laws.StructEq
import Derived.BigQuiet

/- RAlike -/
namespace Go.Proofs.Ytljfkjbagebncaa
open Go.RowKit
set_option maxRecDepth 100000 in
set_option maxHeartbeats 6400000 in
theorem rsamers_any (s s' : Sl) (qs : List Rc) (hlen : qs.length ≤ 1000000) (w : World) (h : RdR w s qs) (h' : RdR w s' qs) :
    Calls Try.prog 44 #[s.v, s'.v] w fun e w' => e = .returned (.bool true) ∧ Below w.heap.size w w' := by
  have HL := Lib.hid h
  have HL' := Lib.hid h'
  clear h h'
  obtain ⟨sa, sn, sc⟩ := s
  obtain ⟨sa', sn', sc'⟩ := s'
  show Calls Try.prog 44 #[.slice sa sn sc, .slice sa' sn' sc'] w _
  have hsn : sn = qs.length := HL.out.1
  have hsn' : sn' = qs.length := HL'.out.1
  obtain rfl : sn' = sn := by omega
  have HSN := Lib.hid hsn
  have hsb : (sn' : Int) ≤ 1000000 := by omega
  clear hsn hsn' hlen
  go_enter Try.func44, Try.ntmps44
  go_wp2
  go_loopw [5] (fun i wr => ∃ k : Nat, k ≤ sn' ∧ i = .int .i64 k ∧ Below w.heap.size w wr) (fun i _ => sn' - (intOf i).toNat)
  case atStart => exact ⟨0, by omega, rfl, Below.refl _ _⟩
  case round =>
    obtain ⟨k, hk, rfl, hb⟩ := hrel
    by_cases hlt : k < sn'
    · have q1 : (k : Int) < (sn' : Int) := by omega
      obtain ⟨q, hq⟩ : ∃ q, qs[k]? = some q := ⟨_, List.getElem?_eq_getElem (by rw [← HSN.out]; exact hlt)⟩
      obtain ⟨b, off, hsa, hbl, c0, c1, c2, c3, c4⟩ := HL.out.get hq
      obtain ⟨b', off', hsa', hbl', c0', c1', c2', c3', c4'⟩ := HL'.out.get hq
      simp only at hsa hsa'
      subst hsa hsa'
      have d0 := (hb.cell (p := ⟨b, off + k * 5, none⟩) hbl).trans c0
      have d1 := (hb.cell (p := ⟨b, off + k * 5 + 1, none⟩) hbl).trans c1
      have d2 := (hb.cell (p := ⟨b, off + k * 5 + 2, none⟩) hbl).trans c2
      have d3 := (hb.cell (p := ⟨b, off + k * 5 + 3, none⟩) hbl).trans c3
      have d4 := (hb.cell (p := ⟨b, off + k * 5 + 4, none⟩) hbl).trans c4
      have d0' := (hb.cell (p := ⟨b', off' + k * 5, none⟩) hbl').trans c0'
      have d1' := (hb.cell (p := ⟨b', off' + k * 5 + 1, none⟩) hbl').trans c1'
      have d2' := (hb.cell (p := ⟨b', off' + k * 5 + 2, none⟩) hbl').trans c2'
      have d3' := (hb.cell (p := ⟨b', off' + k * 5 + 3, none⟩) hbl').trans c3'
      have d4' := (hb.cell (p := ⟨b', off' + k * 5 + 4, none⟩) hbl').trans c4'
      obtain ⟨qn, qt, qc, ql, qd⟩ := q
      simp only at d0 d1 d2 d3 d4 d0' d1' d2' d3' d4'
      have HB := Lib.hid hb
      clear c0 c1 c2 c3 c4 c0' c1' c2' c3' c4' hb hq hbl hbl'
      go_wp2
      go_quiet (fail)
      go_wp2
      go_roundw
      case rel => exact ⟨k + 1, by omega, by go_num, HB.out.trans ((drewN_below _ _).mono HB.out.size)⟩
      case measure => simp [intOf]; omega
    · have q1 : decide ((k : Int) < (sn' : Int)) = false := by simp; omega
      have HB := Lib.hid hb
      clear hb
      go_wp2
      go_ret
      exact ⟨rfl, HB.out⟩
/-- Two messages in memory that are the same message. -/
structure TwoM (w : World) (b b' id : Nat) (r a t d v : Bool) (op cd : Int) (q x y z q' x' y' z' : Sl) (Q : List Qn) (X Y Z : List Rc) (wr : World) : Prop where
  bw : Below w.heap.size w wr
  m : Ce wr b 26 (mc id r a t d v op cd q x y z)
  m' : Ce wr b' 26 (mc id r a t d v op cd q' x' y' z')
  q : RdQ wr q Q
  x : RdR wr x X
  y : RdR wr y Y
  z : RdR wr z Z
  q' : RdQ wr q' Q
  x' : RdR wr x' X
  y' : RdR wr y' Y
  z' : RdR wr z' Z
theorem TwoM.under {w : World} {b b' id : Nat} {r a t d v : Bool} {op cd : Int} {q x y z q' x' y' z' : Sl} {Q : List Qn} {X Y Z : List Rc} {wr w' : World} (h : TwoM w b b' id r a t d v op cd q x y z q' x' y' z' Q X Y Z wr) (hb : Below wr.heap.size wr w') : TwoM w b b' id r a t d v op cd q x y z q' x' y' z' Q X Y Z w' :=
  ⟨h.bw.trans (hb.mono h.bw.size), h.m.below hb, h.m'.below hb, h.q.below hb, h.x.below hb, h.y.below hb, h.z.below hb, h.q'.below hb, h.x'.below hb, h.y'.below hb, h.z'.below hb⟩
set_option maxRecDepth 100000 in
set_option maxHeartbeats 12800000 in
theorem rmsame_any (m : Ms) (nq : m.qs.length ≤ 1000000) (na : m.an.length ≤ 1000000) (nu : m.au.length ≤ 1000000) (nx : m.ex.length ≤ 1000000) (q x y z q' x' y' z' : Sl) (w : World) (h : Lay w m q x y z) (h' : Lay w m q' x' y' z') :
    Calls Try.prog 18 #[.agg (m.cells q x y z), .agg (m.cells q' x' y' z')] w fun e w' => e = .returned (.bool true) ∧ Below w.heap.size w w' := by
  have ht := two_boxes w 26 26 (m.cells q x y z) (m.cells q' x' y' z')
  simp only at ht
  obtain ⟨K0, K1, KB⟩ := ht
  have HI : Hid (TwoM w w.heap.size (w.heap.size + 1) m.id m.r m.a m.t m.d m.v m.op m.cd q x y z q' x' y' z' m.qs m.an m.au m.ex ((w.alloc (.cells (m.cells q x y z) 26)).alloc (.cells (m.cells q' x' y' z') 26))) :=
    Lib.hid ⟨KB, K0, K1, h.q.below KB, h.x.below KB, h.y.below KB, h.z.below KB, h'.q.below KB, h'.x.below KB, h'.y.below KB, h'.z.below KB⟩
  clear K0 K1 KB h h'
  obtain ⟨id, r, a, t, d, v, op, cd, qs, an, au, ex⟩ := m
  simp only at HI nq na nu nx
  have HNA := Lib.hid na
  have HNU := Lib.hid nu
  have HNX := Lib.hid nx
  clear na nu nx
  obtain ⟨qa, qn, qc⟩ := q
  obtain ⟨qa', qn', qc'⟩ := q'
  have hn : qn = qs.length := HI.out.q.1
  have hn' : qn' = qs.length := HI.out.q'.1
  obtain rfl : qn' = qn := by omega
  have HSN := Lib.hid hn
  have hsb : (qn' : Int) ≤ 1000000 := by omega
  clear hn hn' nq
  have bb : (r != r) = false := by simp
  have ba : (a != a) = false := by simp
  have bt' : (t != t) = false := by simp
  have bd : (d != d) = false := by simp
  have bv : (v != v) = false := by simp
  go_enter Try.func18, Try.ntmps18
  go_wp2_with fail
  go_loopw [5] (fun i wr => ∃ k : Nat, k ≤ qn' ∧ i = .int .i64 k ∧ TwoM w w.heap.size (w.heap.size + 1) id r a t d v op cd ⟨qa, qn', qc⟩ x y z ⟨qa', qn', qc'⟩ x' y' z' qs an au ex wr) (fun i _ => qn' - (intOf i).toNat)
  case atStart => exact ⟨0, by omega, rfl, HI.out⟩
  case round =>
    clear HI
    obtain ⟨k, hk, rfl, hI⟩ := hrel
    by_cases hlt : k < qn'
    · have q1 : (k : Int) < (qn' : Int) := by omega
      obtain ⟨q, hq⟩ : ∃ q, qs[k]? = some q := ⟨_, List.getElem?_eq_getElem (by rw [← HSN.out]; exact hlt)⟩
      obtain ⟨b, off, hsa, hbl, d0, d1, d2⟩ := hI.q.get hq
      obtain ⟨b', off', hsa', hbl', d0', d1', d2'⟩ := hI.q'.get hq
      simp only at hsa hsa'
      subst hsa hsa'
      have x8 : wr.cell? ⟨w.heap.size, 8, none⟩ = some (.slice (some ⟨b, off, none⟩) qn' qc) := (hI.m.cell 8).trans rfl
      have y8 : wr.cell? ⟨w.heap.size + 1, 8, none⟩ = some (.slice (some ⟨b', off', none⟩) qn' qc') := (hI.m'.cell 8).trans rfl
      obtain ⟨un, ut, uc⟩ := q
      simp only at d0 d1 d2 d0' d1' d2'
      have HI := Lib.hid hI
      clear hI hq hbl hbl'
      go_wp2
      go_quiet (fail)
      go_wp2
      go_roundw
      case rel => exact ⟨k + 1, by omega, by go_num, HI.out.under (drewN_below _ _)⟩
      case measure => simp [intOf]; omega
    · have q1 : decide ((k : Int) < (qn' : Int)) = false := by simp; omega
      have x8 : wr.cell? ⟨w.heap.size, 8, none⟩ = some (.slice qa qn' qc) := (hI.m.cell 8).trans rfl
      have y8 : wr.cell? ⟨w.heap.size + 1, 8, none⟩ = some (.slice qa' qn' qc') := (hI.m'.cell 8).trans rfl
      have x9 := hI.m.cell 9
      have y9 := hI.m'.cell 9
      simp at x9 y9
      have HI := Lib.hid hI
      clear hI
      go_wp2_with fail
      refine (rsamers_any x x' an HNA.out wr HI.out.x HI.out.x').mono ?_
      rintro e w1 ⟨rfl, hb1⟩
      have HI1 := Lib.hid (HI.out.under hb1)
      have x10 := HI1.out.m.cell 10
      have y10 := HI1.out.m'.cell 10
      simp at x10 y10
      clear hb1 x8 y8 x9 y9 HI
      go_wp2_with fail
      refine (rsamers_any y y' au HNU.out w1 HI1.out.y HI1.out.y').mono ?_
      rintro e w2 ⟨rfl, hb2⟩
      have HI2 := Lib.hid (HI1.out.under hb2)
      have x11 := HI2.out.m.cell 11
      have y11 := HI2.out.m'.cell 11
      simp at x11 y11
      clear hb2 x10 y10 HI1
      go_wp2_with fail
      refine (rsamers_any z z' ex HNX.out w2 HI2.out.z HI2.out.z').mono ?_
      rintro e w3 ⟨rfl, hb3⟩
      go_wp2
      go_ret
      exact ⟨rfl, HI2.out.bw.trans (hb3.mono HI2.out.bw.size)⟩
end Go.Proofs.Ytljfkjbagebncaa
