/-
  What the document's Ready hands back.
-/
import Derived.Test.YtocmgdhhlofajaaRTake
namespace Go.Proofs.Ytocmgdhhlofajaa
open Go.RowKit
theorem free_next {X : List It} {j : Nat} {x y : It} (hy : X[j]? = some y) : free (X.take (j + 1)) x = (free (X.take j) x && !bars x y) := by
  unfold free
  rw [List.take_add_one, hy, List.any_append]
  simp
theorem free_false {X : List It} {j : Nat} {x y : It} (hy : X[j]? = some y) (h : free (X.take j) x = false) : free (X.take (j + 1)) x = false := by rw [free_next hy, h]; rfl
theorem free_true {X : List It} {j : Nat} {x y : It} (h : free (X.take j) x = true) (hb : x.kind = 1 ∨ y.kind = 1 ∨ ¬ y.conn = x.conn ∨ ¬ y.dst = x.dst) (hy : X[j]? = some y) : free (X.take (j + 1)) x = true := by
  rw [free_next hy, h]
  unfold bars isD
  rcases hb with h | h | h | h <;> simp [h]
theorem free_no {X : List It} {j : Nat} {x y : It} (h1 : ¬ x.kind = 1) (h2 : ¬ y.kind = 1) (h3 : y.conn = x.conn) (h4 : y.dst = x.dst) (hy : X[j]? = some y) : free (X.take (j + 1)) x = false := by
  rw [free_next hy]
  unfold bars isD
  simp [h1, h2, h3, h4]
set_option maxRecDepth 100000 in
set_option maxHeartbeats 16000000 in
theorem rready_any (S : Nat → Prop) (b : Nat) (s : St) (w : World) (h : Rn S b s w) (hB : s.its.length ≤ 1000000) :
    Calls Try.prog 17 #[ptr b] w fun e w' => (∃ v, e = .returned v ∧ w'.ownsRow w.heap.size 52 6 v (ready s).length (cs ic (ready s))) ∧ Below w.heap.size w w' := by
  obtain ⟨vi, vl, hp⟩ := h
  have c0 := hp.c0
  have hbl := hp.lt
  have hrow := hp.ri
  have hcells := fun h => hrow.cells ic_len h
  obtain ⟨a, cap, rfl, _, _⟩ := hp.ri.shape
  unfold ready
  clear hp
  generalize s.its = X at *
  obtain ⟨n, hn⟩ : ∃ n, n = X.length := ⟨_, rfl⟩
  rw [← hn] at c0 hB hcells
  have HN := Lib.hid hn
  have HCE := Lib.hid hcells
  have HC0 := Lib.hid c0
  obtain ⟨i0, hi, hz0, hz1, hz2⟩ := info_parts info52
  clear hrow hcells hn c0
  go_enter Try.func17, Try.ntmps17
  go_wp2
  go_loopw [3, 4] (fun v i wr => ∃ k : Nat, k ≤ n ∧ i = .int .i64 (k : Int) ∧ wr.ownsRow w.heap.size 52 6 v (cho free [] (X.take k)).length (cs ic (cho free [] (X.take k))) ∧ Below w.heap.size w wr) (fun _ i _ => n - (intOf i).toNat)
  case atStart => exact ⟨0, by omega, rfl, World.ownsRow_nil _ _ _ _, Below.refl _ _⟩
  case round =>
    obtain ⟨k, hk, rfl, hown, hbw⟩ := hrel
    obtain ⟨wo, hwo⟩ : ∃ wo, wo = wr := ⟨_, rfl⟩
    rw [← hwo] at hown hbw ⊢
    have HOW := Lib.hid hown
    have HBW := Lib.hid hbw
    have hsz := hbw.size
    have c0 := (hbw.cell (p := ⟨b, 0, none⟩) hbl).trans HC0.out
    have hcl := cho_len free [] (X.take k)
    rw [List.length_take] at hcl
    obtain ⟨m, hm⟩ : ∃ m, m = (cho free [] (X.take k)).length := ⟨_, rfl⟩
    rw [← hm] at HOW hcl
    have HM := Lib.hid hm
    have hmb : m ≤ 1000000 := by omega
    clear hown hbw hm hcl hwo
    by_cases hlt : k < n
    · have q1 : (k : Int) < (n : Int) := by omega
      obtain ⟨g, cap', e, _, hg, hcell⟩ := HCE.out (by omega)
      injection e with e1 e2 e3
      subst e1
      obtain ⟨x, hx⟩ : ∃ x, X[k]? = some x := ⟨_, List.getElem?_eq_getElem (by rw [← HN.out]; exact hlt)⟩
      have HG := Lib.hid (show ∀ wz, Below w.heap.size w wz → ∀ i z, X[i]? = some z → ∀ j u, (ic z)[j]? = some u → wz.cell? ⟨g, i * 6 + j, none⟩ = some u from fun wz hb i z hz j u hu => (hb.cell (p := ⟨g, i * 6 + j, none⟩) hg).trans (hcell i z hz j u hu))
      have d0 : wo.cell? ⟨g, k * 6, none⟩ = some (.int .i64 x.num) := HG.out wo HBW.out k x hx 0 _ rfl
      have d1 : wo.cell? ⟨g, k * 6 + 1, none⟩ = some (.int .i64 x.kind) := HG.out wo HBW.out k x hx 1 _ rfl
      have d2 : wo.cell? ⟨g, k * 6 + 2, none⟩ = some (.int .i64 x.frm) := HG.out wo HBW.out k x hx 2 _ rfl
      have d3 : wo.cell? ⟨g, k * 6 + 3, none⟩ = some (.int .i64 x.dst) := HG.out wo HBW.out k x hx 3 _ rfl
      have d4 : wo.cell? ⟨g, k * 6 + 4, none⟩ = some (.int .i64 x.conn) := HG.out wo HBW.out k x hx 4 _ rfl
      have d5 : wo.cell? ⟨g, k * 6 + 5, none⟩ = some (.string x.body) := HG.out wo HBW.out k x hx 5 _ rfl
      have CT := Lib.hid (cho_take free hx)
      clear hcell hx e2 e3
      go_upto_region 7 with fail
      obtain ⟨w1, hw1⟩ : ∃ w1, w1 = wo.alloc (.cells #[.int .i64 x.num, .int .i64 x.kind, .int .i64 x.frm, .int .i64 x.dst, .int .i64 x.conn, .string x.body] 52) := ⟨_, rfl⟩
      have hce := ce_new wo (ic x).toArray 52
      have hb1 := HBW.out.alloc hsz (.cells (ic x).toArray 52)
      have ho1 := HOW.out.alloc (.cells (ic x).toArray 52)
      rw [show wo.alloc (.cells (ic x).toArray 52) = w1 from hw1.symm] at hce hb1 ho1
      rw [← hw1]
      obtain ⟨E, hE⟩ : ∃ E, E = wo.heap.size := ⟨_, rfl⟩
      rw [← hE] at hce ⊢
      have HE := Lib.hid hce
      have HB1 := Lib.hid hb1
      have HO1 := Lib.hid ho1
      have HEE := Lib.hid hE
      have hEl := hce.lt
      clear hw1 hce hb1 ho1 hE c0 d0 d1 d2 d3 d4 d5
      go_wp2
      go_loopw [6, 7] (fun r i wr => ∃ j : Nat, j ≤ k ∧ i = .int .i64 (j : Int) ∧ r = .bool (free (X.take j) x) ∧ Below w1.heap.size w1 wr ∧ Ce wr E 52 (ic x).toArray) (fun _ i _ => k - (intOf i).toNat)
      case atStart => exact ⟨0, by omega, rfl, rfl, Below.refl _ _, HE.out⟩
      case round =>
        obtain ⟨j, hj, rfl, rfl, hbo, heo⟩ := hrel
        have HBO := Lib.hid hbo
        have HEo := Lib.hid heo
        have hbb := HB1.out.trans (hbo.mono HB1.out.size)
        have HBB := Lib.hid hbb
        have c0 := (hbb.cell (p := ⟨b, 0, none⟩) hbl).trans HC0.out
        have hgw : g < wr.heap.size := Nat.lt_of_lt_of_le hg hbb.size
        obtain ⟨e0, e1, e2, e3, e4, e5⟩ := c6 heo
        have hEw := heo.lt
        clear hbo heo hbb
        by_cases hlj : j < k
        · have q2 : (j : Int) < (k : Int) := by omega
          have q3 : (j : Int) < (n : Int) := by omega
          obtain ⟨y, hy⟩ : ∃ y, X[j]? = some y := ⟨_, List.getElem?_eq_getElem (by rw [← HN.out]; omega)⟩
          have d0 : wr.cell? ⟨g, j * 6, none⟩ = some (.int .i64 y.num) := HG.out wr HBB.out j y hy 0 _ rfl
          have d1 : wr.cell? ⟨g, j * 6 + 1, none⟩ = some (.int .i64 y.kind) := HG.out wr HBB.out j y hy 1 _ rfl
          have d2 : wr.cell? ⟨g, j * 6 + 2, none⟩ = some (.int .i64 y.frm) := HG.out wr HBB.out j y hy 2 _ rfl
          have d3 : wr.cell? ⟨g, j * 6 + 3, none⟩ = some (.int .i64 y.dst) := HG.out wr HBB.out j y hy 3 _ rfl
          have d4 : wr.cell? ⟨g, j * 6 + 4, none⟩ = some (.int .i64 y.conn) := HG.out wr HBB.out j y hy 4 _ rfl
          have d5 : wr.cell? ⟨g, j * 6 + 5, none⟩ = some (.string y.body) := HG.out wr HBB.out j y hy 5 _ rfl
          have hEn : E ≠ wr.heap.size := by omega
          cases hf : free (X.take j) x with
          | false =>
            have FT := Lib.hid (free_false hy hf)
            clear hf hy
            go_wp2
            go_roundw
            case rel => exact ⟨j + 1, by omega, by go_num, by rw [FT.out], HBO.out.alloc HBO.out.size _, HEo.out.alloc _⟩
            case measure => simp [intOf]; omega
          | true =>
            by_cases k1 : x.kind = 1
            · have FT := Lib.hid (free_true hf (.inl k1) hy)
              have s1 : (x.kind == 1) = true := by simpa using k1
              clear hf hy k1
              go_wp2
              go_roundw
              case rel => exact ⟨j + 1, by omega, by go_num, by rw [FT.out], HBO.out.alloc HBO.out.size _, HEo.out.alloc _⟩
              case measure => simp [intOf]; omega
            · have s1 : (x.kind == 1) = false := by simpa using k1
              by_cases k2 : y.kind = 1
              · have FT := Lib.hid (free_true hf (.inr (.inl k2)) hy)
                have s2 : (y.kind == 1) = true := by simpa using k2
                clear hf hy k2
                go_wp2
                go_roundw
                case rel => exact ⟨j + 1, by omega, by go_num, by rw [FT.out], HBO.out.alloc HBO.out.size _, HEo.out.alloc _⟩
                case measure => simp [intOf]; omega
              · have s2 : (y.kind == 1) = false := by simpa using k2
                by_cases k3 : y.conn = x.conn
                · by_cases k4 : y.dst = x.dst
                  · have FT := Lib.hid (free_no k1 k2 k3 k4 hy)
                    have s3 : (y.conn != x.conn) = false := by simpa using k3
                    have s4 : (y.dst != x.dst) = false := by simpa using k4
                    clear hf hy k3 k4
                    go_wp2
                    go_roundw
                    case rel => exact ⟨j + 1, by omega, by go_num, by rw [FT.out], HBO.out.alloc HBO.out.size _, HEo.out.alloc _⟩
                    case measure => simp [intOf]; omega
                  · have FT := Lib.hid (free_true hf (.inr (.inr (.inr k4))) hy)
                    have s3 : (y.conn != x.conn) = false := by simpa using k3
                    have s4 : (y.dst != x.dst) = true := by simpa using k4
                    clear hf hy k3
                    go_wp2
                    go_roundw
                    case rel => exact ⟨j + 1, by omega, by go_num, by rw [FT.out], HBO.out.alloc HBO.out.size _, HEo.out.alloc _⟩
                    case measure => simp [intOf]; omega
                · have FT := Lib.hid (free_true hf (.inr (.inr (.inl k3))) hy)
                  have s3 : (y.conn != x.conn) = true := by simpa using k3
                  clear hf hy
                  go_wp2
                  go_roundw
                  case rel => exact ⟨j + 1, by omega, by go_num, by rw [FT.out], HBO.out.alloc HBO.out.size _, HEo.out.alloc _⟩
                  case measure => simp [intOf]; omega
        · have q2 : decide ((j : Int) < (k : Int)) = false := by simp; omega
          obtain rfl : j = k := by omega
          have hO := own_tr HO1.out (S := fun _ => False) (Tr.of_below HBO.out) (fun _ _ h => h)
          have HO := Lib.hid hO
          have hbf := HBB.out
          have HE2 := Lib.hid HEo.out
          have hsw := hbf.size
          have hE1 : E < wr.heap.size := hEw
          clear hO hbf
          cases hf : free (X.take j) x with
          | true =>
            have hq0 : cho free [] (X.take (j + 1)) = cho free [] (X.take j) ++ [x] := by rw [CT.out, hf]; rfl
            have HQ0 := Lib.hid hq0
            clear hf hq0
            go_wp2_with (at_builtin; refine wpList_append_own _ rfl (.tmp 63) (.tmp 65) 27 rfl w.heap.size 52 i0 _ 6 56 Try.underlying27 hi hz0 hz1 hz2 rfl (by decide) _ m _ rfl (HO.out.alloc _) ⟨wr.heap.size, 0, none⟩ 1 1 (ic x) rfl rfl (fun j u hj => World.news_of_block (cs := (ic x).toArray) (t := 52) (fr := (0, 0)) (heap_alloc_new wr _) j u (by simpa using hj)) (by simp [Value.oneCell']) (by unfold maxLen; omega) (by omega) (by simp; omega) ?_)
            intro v4 w4 hown4 hg4 _
            have HB4 := Lib.hid (app_below HBB.out hg4 HO.out)
            have HO4 := Lib.hid (one_more HM.out hown4)
            clear hown4 hg4 c0 e0 e1 e2 e3 e4 e5
            go_wp2
            go_roundw
            case rel => exact ⟨j + 1, by omega, by go_num, by rw [HQ0.out]; exact HO4.out, HB4.out⟩
            case measure => simp [intOf]; omega
          | false =>
            have hq0 : cho free [] (X.take (j + 1)) = cho free [] (X.take j) := by rw [CT.out, hf]; simp
            have HQ0 := Lib.hid hq0
            clear hf hq0
            go_wp2
            go_roundw
            case rel => exact ⟨j + 1, by omega, by go_num, by rw [HQ0.out, ← HM.out]; exact HO.out, HBB.out⟩
            case measure => simp [intOf]; omega
    · have q1 : decide ((k : Int) < (n : Int)) = false := by simp; omega
      obtain rfl : k = n := by omega
      have e1 : X.take k = X := by rw [HN.out, List.take_length]
      rw [e1] at HOW HM
      go_wp2
      go_ret
      exact ⟨⟨_, rfl, by rw [← HM.out]; exact HOW.out⟩, HBW.out⟩
end Go.Proofs.Ytocmgdhhlofajaa
