/-
  What the document's datagrams, take and Ready hand back and leave.
-/
import Derived.Test.YtocmgdhhlofajaaROpen
import Derived.Test.YtocmgdhhlofajaaPick
namespace Go.Proofs.Ytocmgdhhlofajaa
open Go.RowKit
/-- A list that is built of items, one behind the other. -/
theorem one_more {w' : World} {base m : Nat} {v' : Value} {Y : List It} {x : It} (hm : m = Y.length) (h : w'.ownsRow base 52 6 v' (m + 1) (cs ic Y ++ ic x)) : w'.ownsRow base 52 6 v' (Y ++ [x]).length (cs ic (Y ++ [x])) := by
  rw [List.length_append, ← hm, cs_append, cs_one]
  exact h
theorem filter_take {f : It → Bool} {X : List It} {k : Nat} {x : It} (h : X[k]? = some x) : (X.take (k + 1)).filter f = (X.take k).filter f ++ if f x then [x] else [] := by
  rw [List.take_add_one, h, List.filter_append]
  cases hf : f x <;> simp [hf]
theorem app_below {w wr w4 : World} {v : Value} {n e size : Nat} {xs : List Value} {o : Obj} (hb : Below w.heap.size w wr) (hg : (wr.alloc o).grownBy w4 v.ownBlock) (h : wr.ownsRow w.heap.size e size v n xs) : Below w.heap.size w w4 := by
  have hs := hb.size
  refine (hb.alloc hs o).trans ⟨hg.os, hg.tape, hg.output, hg.size, fun k hk => hg.block k (by simp; omega) (fun e => ?_)⟩
  have := (World.ownsRow.lt h k e.symm).1
  omega
--DGS
set_option maxRecDepth 100000 in
set_option maxHeartbeats 4000000 in
theorem rdgs_any (S : Nat → Prop) (b : Nat) (s : St) (w : World) (h : Rn S b s w) (hB : s.its.length ≤ 1000000) :
    Calls Try.prog 56 #[ptr b] w fun e w' => (∃ v, e = .returned v ∧ w'.ownsRow w.heap.size 52 6 v (dgs s).length (cs ic (dgs s))) ∧ Below w.heap.size w w' := by
  obtain ⟨vi, vl, hp⟩ := h
  have c0 := hp.c0
  have hbl := hp.lt
  have hrow := hp.ri
  have hcells := fun h => hrow.cells ic_len h
  obtain ⟨a, cap, rfl, _, _⟩ := hp.ri.shape
  unfold dgs
  clear hp
  generalize s.its = X at *
  obtain ⟨n, hn⟩ : ∃ n, n = X.length := ⟨_, rfl⟩
  rw [← hn] at c0 hB hcells
  have HN := Lib.hid hn
  have HCE := Lib.hid hcells
  have HC0 := Lib.hid c0
  obtain ⟨i0, hi, hz0, hz1, hz2⟩ := info_parts info52
  clear hrow hcells hn c0
  go_enter Try.func56, Try.ntmps56
  go_wp2
  go_loopw [3, 4] (fun v i wr => ∃ k : Nat, k ≤ n ∧ i = .int .i64 (k : Int) ∧ wr.ownsRow w.heap.size 52 6 v ((X.take k).filter isD).length (cs ic ((X.take k).filter isD)) ∧ Below w.heap.size w wr) (fun _ i _ => n - (intOf i).toNat)
  case atStart => exact ⟨0, by omega, rfl, World.ownsRow_nil _ _ _ _, Below.refl _ _⟩
  case round =>
    obtain ⟨k, hk, rfl, hown, hbw⟩ := hrel
    have HOW := Lib.hid hown
    have HBW := Lib.hid hbw
    have hsz := hbw.size
    have c0 := (hbw.cell (p := ⟨b, 0, none⟩) hbl).trans HC0.out
    have hcl := List.length_filter_le isD (X.take k)
    rw [List.length_take] at hcl
    obtain ⟨m, hm⟩ : ∃ m, m = ((X.take k).filter isD).length := ⟨_, rfl⟩
    rw [← hm] at HOW hcl
    have HM := Lib.hid hm
    have hmb : m ≤ 1000000 := by omega
    clear hown hbw hm hcl
    by_cases hlt : k < n
    · have q1 : (k : Int) < (n : Int) := by omega
      obtain ⟨g, cap', e, _, hg, hcell⟩ := HCE.out (by omega)
      injection e with e1 e2 e3
      subst e1
      obtain ⟨x, hx⟩ : ∃ x, X[k]? = some x := ⟨_, List.getElem?_eq_getElem (by rw [← HN.out]; exact hlt)⟩
      have hcr : ∀ j u, (ic x)[j]? = some u → wr.cell? ⟨g, k * 6 + j, none⟩ = some u := fun j u hu => (HBW.out.cell (p := ⟨g, k * 6 + j, none⟩) hg).trans (hcell k x hx j u hu)
      have d0 : wr.cell? ⟨g, k * 6, none⟩ = some (.int .i64 x.num) := hcr 0 _ rfl
      have d1 : wr.cell? ⟨g, k * 6 + 1, none⟩ = some (.int .i64 x.kind) := hcr 1 _ rfl
      have d2 : wr.cell? ⟨g, k * 6 + 2, none⟩ = some (.int .i64 x.frm) := hcr 2 _ rfl
      have d3 : wr.cell? ⟨g, k * 6 + 3, none⟩ = some (.int .i64 x.dst) := hcr 3 _ rfl
      have d4 : wr.cell? ⟨g, k * 6 + 4, none⟩ = some (.int .i64 x.conn) := hcr 4 _ rfl
      have d5 : wr.cell? ⟨g, k * 6 + 5, none⟩ = some (.string x.body) := hcr 5 _ rfl
      have CT := Lib.hid (filter_take (f := isD) hx)
      clear hcell hcr hx e2 e3
      by_cases hxd : x.kind = 1
      · have hq0 : (X.take (k + 1)).filter isD = (X.take k).filter isD ++ [x] := by rw [CT.out]; simp [isD, hxd]
        have HQ0 := Lib.hid hq0
        have HX1 := Lib.hid hxd
        have qx : (x.kind == 1) = true := by simpa using hxd
        clear hq0 hxd
        go_wp2_with (at_builtin; refine wpList_append_own _ rfl (.tmp 23) (.tmp 31) 27 rfl w.heap.size 52 i0 _ 6 56 Try.underlying27 hi hz0 hz1 hz2 rfl (by decide) _ m _ rfl (HOW.out.alloc _) ⟨wr.heap.size, 0, none⟩ 1 1 (ic x) rfl rfl (fun j u hj => World.news_of_block (cs := (ic x).toArray) (t := 52) (fr := (0, 0)) (heap_alloc_new wr _) j u (by simpa using hj)) (by simp [Value.oneCell']) (by unfold maxLen; omega) (by omega) (by simp; omega) ?_)
        intro v4 w4 hown4 hg4 _
        have HB4 := Lib.hid (app_below HBW.out hg4 HOW.out)
        have HO4 := Lib.hid (one_more HM.out hown4)
        clear hown4 hg4 d0 d1 d2 d3 d4 d5 c0
        go_wp2
        go_roundw
        case rel => exact ⟨k + 1, by omega, by go_num, by rw [HQ0.out]; exact HO4.out, HB4.out⟩
        case measure => simp [intOf]; omega
      · have hq0 : (X.take (k + 1)).filter isD = (X.take k).filter isD := by rw [CT.out]; simp [isD, hxd]
        have HQ0 := Lib.hid hq0
        have qx : (x.kind == 1) = false := by simpa using hxd
        clear hq0
        go_wp2
        go_roundw
        case rel => exact ⟨k + 1, by omega, by go_num, by rw [HQ0.out, ← HM.out]; exact HOW.out, HBW.out⟩
        case measure => simp [intOf]; omega
    · have q1 : decide ((k : Int) < (n : Int)) = false := by simp; omega
      obtain rfl : k = n := by omega
      have e1 : X.take k = X := by rw [HN.out, List.take_length]
      rw [e1] at HOW HM
      go_wp2
      go_ret
      exact ⟨⟨_, rfl, by rw [← HM.out]; exact HOW.out⟩, HBW.out⟩
--END
end Go.Proofs.Ytocmgdhhlofajaa
