/-
  What picked and pull leave and answer.
-/
import Derived.Test.YtocmgdhhlofajaaFirsts
namespace Go.Proofs.Ytocmgdhhlofajaa
open Go.RowKit
abbrev zi : It := ⟨0, 0, 0, 0, 0, ⟨#[]⟩⟩
theorem rem_neg {p : Int} {n k : Nat} (hn : 0 < n) (hk : k = pk p n) (hp : p < 0) : (-(p + 1)).tmod (n : Int) = (k : Int) := by
  subst hk
  rw [pk_cast hn, if_pos hp, Int.tmod_eq_emod_of_nonneg (by omega)]
theorem rem_pos {p : Int} {n k : Nat} (hn : 0 < n) (hk : k = pk p n) (hp : 0 ≤ p) : p.tmod (n : Int) = (k : Int) := by
  subst hk
  rw [pk_cast hn, if_neg (by omega), Int.tmod_eq_emod_of_nonneg hp]
set_option maxRecDepth 100000 in
set_option maxHeartbeats 4000000 in
theorem picked_any (L : List It) (p : Int) (hp : I64 p) (base : Nat) (v : Value) (w : World) (h : w.ownsRow base 52 6 v L.length (cs ic L)) (hL : L.length ≤ 1000000) :
    Calls Try.prog 50 #[v, .int .i64 p] w fun e w' => e = .returned (.tuple #[ia ((pick L p).getD zi), .bool (pick L p).isSome]) ∧ Below w.heap.size w w' := by
  have hrw : Rw ic 52 6 w v L := own_mono h (Nat.zero_le _)
  have hcells := fun h => hrw.cells ic_len h
  obtain ⟨a, cap, rfl, _, _⟩ := hrw.shape
  have hb0 : Below w.heap.size w (w.alloc (.cells (ic zi).toArray 52)) := (Below.refl _ w).alloc (Nat.le_refl _) _
  have hce0 := ce_new w (ic zi).toArray 52
  obtain ⟨w1, hw1⟩ : ∃ w1, w1 = w.alloc (.cells (ic zi).toArray 52) := ⟨_, rfl⟩
  rw [← hw1] at hb0 hce0
  have HB0 := Lib.hid hb0
  have HW1 := Lib.hid hw1
  obtain ⟨z0, z1, z2, z3, z4, z5⟩ := c6 hce0
  obtain ⟨y0, y1, y2, y3, y4, y5⟩ := f6 hce0
  have HE0 := Lib.hid hce0
  have hsz := hb0.size
  have hBl := hce0.lt
  unfold I64 at hp
  by_cases h0 : L = []
  · subst h0
    rw [pick_nil]
    clear hcells hrw h hw1 hb0 hce0
    go_enter Try.func50, Try.ntmps50
    go_upto_region 1 with fail
    rw [show w.alloc (.cells #[.int .i64 0, .int .i64 0, .int .i64 0, .int .i64 0, .int .i64 0, .string ⟨#[]⟩] 52) = w1 from HW1.out.symm]
    obtain ⟨B0, hB0⟩ : ∃ B0, B0 = w.heap.size := ⟨_, rfl⟩
    rw [← hB0] at z0 z1 z2 z3 z4 z5 y0 y1 y2 y3 y4 y5 HE0 hBl ⊢
    have HBE := Lib.hid hB0
    clear hB0
    go_wp2
    refine bodyPost_ret (res6t rfl rfl (set6_ce HE0.out)) rfl ?_
    exact ⟨rfl, set6_below HB0.out (Nat.le_of_eq HBE.out.symm) _ _ _ _ _ _⟩
  · have hn0 : 0 < L.length := List.length_pos_iff.2 h0
    obtain ⟨x, hx, _⟩ := pick_some h0 p
    have hxk : L[pk p L.length]? = some x := hx
    obtain ⟨g, cap', e, _, hg, hcell⟩ := hcells hn0
    injection e with e1 e2 e3
    subst e1
    have hkl := pk_lt (p := p) hn0
    obtain ⟨k, hk⟩ : ∃ k, k = pk p L.length := ⟨_, rfl⟩
    rw [← hk] at hxk hkl
    have hcr : ∀ j u, (ic x)[j]? = some u → w1.cell? ⟨g, k * 6 + j, none⟩ = some u := fun j u hu => (HB0.out.cell (p := ⟨g, k * 6 + j, none⟩) hg).trans (hcell k x hxk j u hu)
    have c0 : w1.cell? ⟨g, k * 6, none⟩ = some (.int .i64 x.num) := hcr 0 _ rfl
    have c1 : w1.cell? ⟨g, k * 6 + 1, none⟩ = some (.int .i64 x.kind) := hcr 1 _ rfl
    have c2 : w1.cell? ⟨g, k * 6 + 2, none⟩ = some (.int .i64 x.frm) := hcr 2 _ rfl
    have c3 : w1.cell? ⟨g, k * 6 + 3, none⟩ = some (.int .i64 x.dst) := hcr 3 _ rfl
    have c4 : w1.cell? ⟨g, k * 6 + 4, none⟩ = some (.int .i64 x.conn) := hcr 4 _ rfl
    have c5 : w1.cell? ⟨g, k * 6 + 5, none⟩ = some (.string x.body) := hcr 5 _ rfl
    rw [hx]
    have hneg := fun h => rem_neg hn0 hk (p := p) h
    have hpos := fun h => rem_pos hn0 hk (p := p) h
    generalize L.length = n at *
    clear hcells hrw h hw1 hb0 hce0 hcell hcr hx hxk hk e2 e3 h0
    have hnz : ¬ ((n : Int) = 0) := by omega
    have hnz2 : ((n : Int) == 0) = false := by simpa using hnz
    have hk1 : (k : Int) < (n : Int) := by omega
    by_cases hp0 : p < 0
    · have hr := hneg hp0
      clear hneg hpos
      go_enter Try.func50, Try.ntmps50
      go_upto_region 1 with fail
      rw [show w.alloc (.cells #[.int .i64 0, .int .i64 0, .int .i64 0, .int .i64 0, .int .i64 0, .string ⟨#[]⟩] 52) = w1 from HW1.out.symm]
      obtain ⟨B0, hB0⟩ : ∃ B0, B0 = w.heap.size := ⟨_, rfl⟩
      rw [← hB0] at z0 z1 z2 z3 z4 z5 y0 y1 y2 y3 y4 y5 HE0 hBl ⊢
      have HBE := Lib.hid hB0
      clear hB0
      go_wp2
      refine bodyPost_ret (res6t rfl rfl (set6_ce HE0.out)) rfl ?_
      exact ⟨rfl, set6_below HB0.out (Nat.le_of_eq HBE.out.symm) _ _ _ _ _ _⟩
    · have hr := hpos (by omega)
      have q0 : decide (p < 0) = false := by simpa using hp0
      clear hneg hpos
      go_enter Try.func50, Try.ntmps50
      go_upto_region 1 with fail
      rw [show w.alloc (.cells #[.int .i64 0, .int .i64 0, .int .i64 0, .int .i64 0, .int .i64 0, .string ⟨#[]⟩] 52) = w1 from HW1.out.symm]
      obtain ⟨B0, hB0⟩ : ∃ B0, B0 = w.heap.size := ⟨_, rfl⟩
      rw [← hB0] at z0 z1 z2 z3 z4 z5 y0 y1 y2 y3 y4 y5 HE0 hBl ⊢
      have HBE := Lib.hid hB0
      clear hB0
      go_wp2
      refine bodyPost_ret (res6t rfl rfl (set6_ce HE0.out)) rfl ?_
      exact ⟨rfl, set6_below HB0.out (Nat.le_of_eq HBE.out.symm) _ _ _ _ _ _⟩
end Go.Proofs.Ytocmgdhhlofajaa
