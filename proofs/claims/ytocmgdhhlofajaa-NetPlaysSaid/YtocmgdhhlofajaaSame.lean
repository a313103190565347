/-
  One list, twice, is the same.
-/
import Derived.Test.YtocmgdhhlofajaaRCalls
namespace Go.Proofs.Ytocmgdhhlofajaa
open Go.RowKit
set_option maxRecDepth 100000 in
set_option maxHeartbeats 8000000 in
theorem same_any (L : List It) (v1 v2 : Value) (w : World) (h1 : w.ownsRow 0 52 6 v1 L.length (cs ic L)) (h2 : w.ownsRow 0 52 6 v2 L.length (cs ic L)) (hL : L.length ≤ 900000) :
    Calls Try.prog 15 #[v1, v2] w fun e w' => e = .returned (.bool true) ∧ Below w.heap.size w w' := by
  have e1 := fun h => own_at h1 h
  have e2 := fun h => own_at h2 h
  obtain ⟨a1, c1, rfl⟩ := row_slice h1
  obtain ⟨a2, c2, rfl⟩ := row_slice h2
  obtain ⟨n, hn⟩ : ∃ n, n = L.length := ⟨_, rfl⟩
  rw [← hn] at e1 e2 hL ⊢
  have HN := Lib.hid hn
  have H1 := Lib.hid e1
  have H2 := Lib.hid e2
  clear h1 h2 e1 e2 hn
  go_enter Try.func15, Try.ntmps15
  go_wp2
  go_loopw [5] (fun i wr => ∃ k : Nat, k ≤ n ∧ i = .int .i64 (k : Int) ∧ Below w.heap.size w wr) (fun i _ => n - (intOf i).toNat)
  case atStart => exact ⟨0, by omega, rfl, Below.refl _ _⟩
  case round =>
    obtain ⟨k, hk, rfl, hb⟩ := hrel
    have HB := Lib.hid hb
    have hsz := hb.size
    clear hb
    by_cases hlt : k < n
    · have q1 : (k : Int) < (n : Int) := by omega
      obtain ⟨g, cap, e, _, hg, hcell⟩ := H1.out (by omega)
      injection e with x1 x2 x3
      subst x1
      obtain ⟨g', cap', e, _, hg', hcell'⟩ := H2.out (by omega)
      injection e with y1 y2 y3
      subst y1
      obtain ⟨x, hx⟩ : ∃ x, L[k]? = some x := ⟨_, List.getElem?_eq_getElem (by rw [← HN.out]; exact hlt)⟩
      have hcr : ∀ j u, (ic x)[j]? = some u → wr.cell? ⟨g, k * 6 + j, none⟩ = some u := fun j u hu => (HB.out.cell (p := ⟨g, k * 6 + j, none⟩) hg).trans (hcell k x hx j u hu)
      have hcr' : ∀ j u, (ic x)[j]? = some u → wr.cell? ⟨g', k * 6 + j, none⟩ = some u := fun j u hu => (HB.out.cell (p := ⟨g', k * 6 + j, none⟩) hg').trans (hcell' k x hx j u hu)
      have d0 : wr.cell? ⟨g, k * 6, none⟩ = some (.int .i64 x.num) := hcr 0 _ rfl
      have d1 : wr.cell? ⟨g, k * 6 + 1, none⟩ = some (.int .i64 x.kind) := hcr 1 _ rfl
      have d2 : wr.cell? ⟨g, k * 6 + 2, none⟩ = some (.int .i64 x.frm) := hcr 2 _ rfl
      have d3 : wr.cell? ⟨g, k * 6 + 3, none⟩ = some (.int .i64 x.dst) := hcr 3 _ rfl
      have d4 : wr.cell? ⟨g, k * 6 + 4, none⟩ = some (.int .i64 x.conn) := hcr 4 _ rfl
      have d5 : wr.cell? ⟨g, k * 6 + 5, none⟩ = some (.string x.body) := hcr 5 _ rfl
      have e0 : wr.cell? ⟨g', k * 6, none⟩ = some (.int .i64 x.num) := hcr' 0 _ rfl
      have e1 : wr.cell? ⟨g', k * 6 + 1, none⟩ = some (.int .i64 x.kind) := hcr' 1 _ rfl
      have e2 : wr.cell? ⟨g', k * 6 + 2, none⟩ = some (.int .i64 x.frm) := hcr' 2 _ rfl
      have e3 : wr.cell? ⟨g', k * 6 + 3, none⟩ = some (.int .i64 x.dst) := hcr' 3 _ rfl
      have e4 : wr.cell? ⟨g', k * 6 + 4, none⟩ = some (.int .i64 x.conn) := hcr' 4 _ rfl
      have e5 : wr.cell? ⟨g', k * 6 + 5, none⟩ = some (.string x.body) := hcr' 5 _ rfl
      clear hcell hcell' hcr hcr' hx x2 x3 y2 y3
      go_upto_region 6 with fail
      go_quiet (fail)
      go_wp2
      go_roundw
      case rel => exact ⟨k + 1, by omega, by go_num, HB.out.trans ((below_drewN wr nq).mono hsz)⟩
      case measure => simp [intOf]; omega
    · have q1 : decide ((k : Int) < (n : Int)) = false := by simp; omega
      go_wp2
      go_ret
      exact ⟨rfl, HB.out⟩
end Go.Proofs.Ytocmgdhhlofajaa
