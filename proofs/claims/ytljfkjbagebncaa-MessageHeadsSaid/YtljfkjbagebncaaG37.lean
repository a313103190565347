/-
  AwakeMath: The chapter's examples, as the answers have them.
  AwakeM: The statements' own look 'awake' returns true. No older memory is changed.
-/
import Derived.Test.YtljfkjbagebncaaG33

/- AwakeMath -/
namespace Go.Proofs.Ytljfkjbagebncaa
open Go.RowKit
abbrev qa : Qn := ⟨⟨#[1, 97, 0]⟩, 1, 1⟩
abbrev ba : Bs := [0, 7, 0, 0, 0, 1, 0, 0, 0, 0, 0, 0, 1, 97, 0, 0, 1, 0, 1]
abbrev zb (n : Nat) : Bs := List.replicate n 0
theorem aw1 : mbytes (qryM 7 qa) = (ba, 0) := by decide +kernel
theorem aw2 : (mread (zb 12)).2 = 0 := by decide +kernel
theorem aw3 : (mread (zb 11)).2 = 10 := by decide +kernel
theorem aw4 : (mread (zb 13)).2 = 10 := by decide +kernel
theorem aw5 : mt (qryM 7 qa) (rplM (qryM 7 qa) 3) = true := by decide +kernel
end Go.Proofs.Ytljfkjbagebncaa

/- AwakeM -/
namespace Go.Proofs.Ytljfkjbagebncaa
open Go.RowKit
/-- make([]byte, n), and string of it. -/
theorem zeros_make (n : Nat) (hn : n ≤ 100) (k : Int) (hk : k = (n : Int)) : ∃ M : Array Value, (∀ w : World, (Instr.makeSlice 47 (.int .i64 k) (.int .i64 k)).run Try.prog w = .ok (.slice (some ⟨w.heap.size, 0, none⟩) n n) (w.alloc (.cells M 5))) ∧
    ∀ (w : World) (b : Nat), b = w.heap.size → (convert 47 9 (.slice (some ⟨b, 0, none⟩) n n)).run Try.prog (w.alloc (.cells M 5)) = .ok (str (zb n)) (w.alloc (.cells M 5)) := by
  subst hk
  obtain ⟨i0, hi, hz0, hz1, hz2⟩ := info_parts info5
  refine ⟨madeCells (Value.int .u8 0).cells (((n : Nat) : Int).toNat * i0.size), ?_, ?_⟩
  · intro w
    have h := run_make (P := Try.prog) w 47 5 i0 (.int .u8 0) Try.underlying47 hi hz0 .i64 .i64 (n : Int) (n : Int) (by omega) (by omega) (by rw [hz2]; omega) (by omega)
    simpa using h
  · intro w b hb
    subst hb
    have hm : madeCells (Value.int .u8 0).cells (((n : Nat) : Int).toNat * i0.size) = (ub (zb n)).toArray := by
      apply Array.toList_inj.1
      have : (Value.int .u8 0).cells = #[Value.int .u8 0] := rfl
      rw [this, hz1, Nat.mul_one, Int.toNat_natCast]
      rw [toList_madeCells_one]
      simp [ub]
    rw [hm]
    have hc : ∀ j x, (zb n)[j]? = some x → (w.alloc (.cells (ub (zb n)).toArray 5)).cell? ((⟨w.heap.size, 0, none⟩ : Addr).add j) = some (.int .u8 (x.toNat : Int)) := fun j x hj => by
      rw [add_lit, Nat.zero_add, (Ce.new w 5 _).cell j]
      have h2 : (ub (zb n))[j]? = some (.int .u8 (x.toNat : Int)) := by rw [List.getElem?_map, hj]; rfl
      simpa only [List.getElem?_toArray] using h2
    have := run_convert_bytes_back (P := Try.prog) (w.alloc (.cells (ub (zb n)).toArray 5)) 47 9 5 ⟨w.heap.size, 0, none⟩ n (zb n) Try.underlying47 Try.underlying5 Try.underlying9 (fun j hj => hc j _ (List.getElem?_eq_getElem hj))
    have e : (zb n).length = n := by simp [zb]
    rw [e] at this
    exact this
/-- The reply's block, and the question's. -/
theorem look7 {W : World} {g7 b : Nat} {s7 : Sl} (h : Ce W g7 26 (mc 7 true false false false true 0 3 s7 nl nl nl)) (k : Ce W b 44 qa.cells) :
    W.cell? ⟨g7, 0, none⟩ = some (.int .u16 7) ∧ W.cell? ⟨g7, 1, none⟩ = some (.bool true) ∧ W.cell? ⟨g7, 2, none⟩ = some (.bool false) ∧ W.cell? ⟨g7, 3, none⟩ = some (.bool false) ∧ W.cell? ⟨g7, 4, none⟩ = some (.bool false) ∧ W.cell? ⟨g7, 5, none⟩ = some (.bool true) ∧ W.cell? ⟨g7, 6, none⟩ = some (.int .i64 0) ∧ W.cell? ⟨g7, 7, none⟩ = some (.int .i64 3) ∧ W.cell? ⟨g7, 8, none⟩ = some s7.v ∧ W.cell? ⟨g7, 9, none⟩ = some nl.v ∧ W.cell? ⟨g7, 10, none⟩ = some nl.v ∧ W.cell? ⟨g7, 11, none⟩ = some nl.v ∧ W.cell? ⟨b, 0, none⟩ = some (.string ⟨#[1, 97, 0]⟩) ∧ W.cell? ⟨b, 1, none⟩ = some (.int .u16 1) ∧ W.cell? ⟨b, 2, none⟩ = some (.int .u16 1) := by
  refine ⟨?_, ?_, ?_, ?_, ?_, ?_, ?_, ?_, ?_, ?_, ?_, ?_, ?_, ?_, ?_⟩ <;> first | (rw [h.cell]; rfl) | (rw [k.cell]; rfl)
set_option maxRecDepth 100000 in
set_option maxHeartbeats 12800000 in
theorem mawake_any (w : World) : Calls Try.prog 9 #[] w fun e w' => e = .returned (.bool true) ∧ Below w.heap.size w w' := by
  have HQ := Lib.hid (fun w => query_any 7 qa (by decide) w)
  have HBY : Hid (∀ s w, RdQ w s [qa] → Calls Try.prog 11 #[.agg ((qryM 7 qa).cells s nl nl nl)] w fun e w' => e = .returned (.tuple #[.string ⟨#[0, 7, 0, 0, 0, 1, 0, 0, 0, 0, 0, 0, 1, 97, 0, 0, 1, 0, 1]⟩, .int .i64 0]) ∧ Below w.heap.size w w') := Lib.hid fun s w h => by
    have := bytes_any (qryM 7 qa) ⟨by decide, by decide, by decide, by simp [qryM]; exact ⟨by decide, by decide, by decide⟩, by simp [qryM], by simp [qryM], by simp [qryM], by decide, by decide, by decide, by decide⟩ s nl nl nl w ⟨h, rdr_nil w, rdr_nil w, rdr_nil w⟩
    rw [aw1] at this
    exact this
  have HR : Hid (∀ n, n ≤ 100 → ∀ w, Calls Try.prog 14 #[str (zb n)] w (RPost w (mread (zb n)))) := Lib.hid fun n hn w => by
    exact mread_any ⟨(zb n).toArray⟩ (by show (zb n).toArray.size ≤ _; simp [zb]; omega) w
  have HRP : Hid (∀ q x y z w, RdQ w q [qa] → Calls Try.prog 21 #[.agg ((qryM 7 qa).cells q x y z), .int .i64 3] w fun e w' => ∃ s : Sl, e = .returned (.agg ((rplM (qryM 7 qa) 3).cells s nl nl nl)) ∧ RdQ w' s [qa] ∧ Below w.heap.size w w') := Lib.hid fun q x y z w h =>
    reply_any (qryM 7 qa) ⟨by decide, by decide, by decide, by simp [qryM]; exact ⟨by decide, by decide, by decide⟩, by simp [qryM], by simp [qryM], by simp [qryM], by decide, by decide, by decide, by decide⟩ 3 q x y z w h
  have HMT : Hid (∀ q q' w, RdQ w q [qa] → RdQ w q' [qa] → Calls Try.prog 22 #[.agg ((qryM 7 qa).cells q nl nl nl), .agg ((rplM (qryM 7 qa) 3).cells q' nl nl nl)] w fun e w' => e = .returned (.bool true) ∧ Below w.heap.size w w') := Lib.hid fun q q' w h h' => by
    have := matches_any (qryM 7 qa) (rplM (qryM 7 qa) 3) (by simp [qryM]; decide) (by simp [qryM, rplM]; decide) q nl nl nl q' nl nl nl w h h'
    rw [aw5] at this
    exact this
  go_enter Try.func9, Try.ntmps9
  go_wp2_with fail
  refine (HQ.out _).mono ?_
  rintro e w1 ⟨s1, rfl, hr1, hb1⟩
  have hq1 := (Ce.new w 44 qa.cells).below hb1
  have hB1 := (one_box w (.cells qa.cells 44)).trans (hb1.mono (one_box w (.cells qa.cells 44)).size)
  have HQ1 := Lib.hid hq1
  have HB1 := Lib.hid hB1
  have HR1 := Lib.hid hr1
  clear hq1 hB1 hr1 hb1
  go_wp2_with fail
  refine (HBY.out _ _ HR1.out).mono ?_
  rintro e w2 ⟨rfl, hb2⟩
  have HQ2 := Lib.hid (HQ1.out.below hb2)
  have HB2 := Lib.hid (HB1.out.trans (hb2.mono HB1.out.size))
  clear hb2 HQ1 HB1 HR1
  obtain ⟨M2, hmk2, hcv2⟩ := zeros_make 12 (by omega) 12 rfl
  have HX2 := Lib.hid (fun W => one_box W (.cells M2 5))
  go_wp2_with fail
  refine (HR.out 12 (by omega) _).mono ?_
  rintro e v2 ⟨q2, x2, y2, z2, rfl, _, hbv2⟩
  rw [aw2]
  generalize (mread (zb 12)).1 = m2
  have hx2 := (HX2.out _).trans (hbv2.mono (HX2.out _).size)
  have hbb2 := one_box v2 (.cells (m2.cells q2 x2 y2 z2) 26)
  have hz2 := hx2.trans (hbb2.mono hx2.size)
  have HQ3 := Lib.hid (HQ2.out.below hz2)
  have HB3 := Lib.hid (HB2.out.trans (hz2.mono HB2.out.size))
  clear hmk2 hcv2 HX2 hx2 hbv2 hbb2 hz2 HQ2 HB2
  obtain ⟨M3, hmk3, hcv3⟩ := zeros_make 11 (by omega) 11 rfl
  have HX3 := Lib.hid (fun W => one_box W (.cells M3 5))
  go_wp2_with fail
  refine (HR.out 11 (by omega) _).mono ?_
  rintro e v3 ⟨q3, x3, y3, z3, rfl, _, hbv3⟩
  rw [aw3]
  generalize (mread (zb 11)).1 = m3
  have hx3 := (HX3.out _).trans (hbv3.mono (HX3.out _).size)
  have hbb3 := one_box v3 (.cells (m3.cells q3 x3 y3 z3) 26)
  have hz3 := hx3.trans (hbb3.mono hx3.size)
  have HQ4 := Lib.hid (HQ3.out.below hz3)
  have HB4 := Lib.hid (HB3.out.trans (hz3.mono HB3.out.size))
  clear hmk3 hcv3 HX3 hx3 hbv3 hbb3 hz3 HQ3 HB3
  obtain ⟨M4, hmk4, hcv4⟩ := zeros_make 13 (by omega) 13 rfl
  have HX4 := Lib.hid (fun W => one_box W (.cells M4 5))
  go_wp2_with fail
  refine (HR.out 13 (by omega) _).mono ?_
  rintro e v4 ⟨q4, x4, y4, z4, rfl, _, hbv4⟩
  rw [aw4]
  generalize (mread (zb 13)).1 = m4
  have hx4 := (HX4.out _).trans (hbv4.mono (HX4.out _).size)
  have hbb4 := one_box v4 (.cells (m4.cells q4 x4 y4 z4) 26)
  have hz4 := hx4.trans (hbb4.mono hx4.size)
  have HQ5 := Lib.hid (HQ4.out.below hz4)
  have HB5 := Lib.hid (HB4.out.trans (hz4.mono HB4.out.size))
  clear hmk4 hcv4 HX4 hx4 hbv4 hbb4 hz4 HQ4 HB4
  go_wp2_with (first | (refine ld44 (.tmp 1) HQ5.out rfl rfl rfl rfl ?_))
  refine (HQ.out _).mono ?_
  rintro e w6 ⟨s6, rfl, hr6, hb6⟩
  have HQ6 := Lib.hid (HQ5.out.below hb6)
  have HB6 := Lib.hid (HB5.out.trans (hb6.mono HB5.out.size))
  have HR6 := Lib.hid hr6
  clear hb6 hr6 HQ5 HB5
  go_wp2_with fail
  refine (HRP.out _ _ _ _ _ HR6.out).mono ?_
  rintro e w7 ⟨s7, rfl, hr7, hb7⟩
  have hx7 := one_box w7 (.cells (mc 7 true false false false true 0 3 s7 nl nl nl) 26)
  have HQ7 := Lib.hid ((HQ6.out.below hb7).below hx7)
  have hB7 := HB6.out.trans (hb7.mono HB6.out.size)
  have HB7 := Lib.hid (hB7.trans (hx7.mono hB7.size))
  have HR7 := Lib.hid (hr7.below hx7)
  have HC7 := Lib.hid (Ce.new w7 26 (mc 7 true false false false true 0 3 s7 nl nl nl))
  clear hb7 hr7 hx7 hB7 HQ6 HB6 HR6
  obtain ⟨g7, hg7⟩ : ∃ g7, w7.heap.size = g7 := ⟨_, rfl⟩
  rw [hg7] at HC7
  go_wp2_with fail
  clear hg7
  generalize hW7 : World.alloc w7 _ = W7
  have HC8 : Hid (Ce W7 g7 26 (mc 7 true false false false true 0 3 s7 nl nl nl)) := Lib.hid (by rw [← hW7]; exact HC7.out)
  have HQ8 : Hid (Ce W7 w.heap.size 44 qa.cells) := Lib.hid (by rw [← hW7]; exact HQ7.out)
  have HB8 : Hid (Below w.heap.size w W7) := Lib.hid (by rw [← hW7]; exact HB7.out)
  have HR8 : Hid (RdQ W7 s7 [qa]) := Lib.hid (by rw [← hW7]; exact HR7.out)
  clear hW7 HC7 HQ7 HB7 HR7
  have HS := Lib.hid (look7 HC8.out HQ8.out)
  have HSd : Hid (W7.drew.cell? ⟨g7, 0, none⟩ = some (.int .u16 7) ∧ W7.drew.cell? ⟨g7, 1, none⟩ = some (.bool true) ∧ W7.drew.cell? ⟨g7, 2, none⟩ = some (.bool false) ∧ W7.drew.cell? ⟨g7, 3, none⟩ = some (.bool false) ∧ W7.drew.cell? ⟨g7, 4, none⟩ = some (.bool false) ∧ W7.drew.cell? ⟨g7, 5, none⟩ = some (.bool true) ∧ W7.drew.cell? ⟨g7, 6, none⟩ = some (.int .i64 0) ∧ W7.drew.cell? ⟨g7, 7, none⟩ = some (.int .i64 3) ∧ W7.drew.cell? ⟨g7, 8, none⟩ = some s7.v ∧ W7.drew.cell? ⟨g7, 9, none⟩ = some nl.v ∧ W7.drew.cell? ⟨g7, 10, none⟩ = some nl.v ∧ W7.drew.cell? ⟨g7, 11, none⟩ = some nl.v ∧ W7.drew.cell? ⟨w.heap.size, 0, none⟩ = some (.string ⟨#[1, 97, 0]⟩) ∧ W7.drew.cell? ⟨w.heap.size, 1, none⟩ = some (.int .u16 1) ∧ W7.drew.cell? ⟨w.heap.size, 2, none⟩ = some (.int .u16 1)) := Lib.hid (look7 (W := W7.drew) HC8.out HQ8.out)
  go_region_held3 (fun w' => w'.cell? ⟨g7, 0, none⟩ = some (.int .u16 7) ∧ w'.cell? ⟨g7, 1, none⟩ = some (.bool true) ∧ w'.cell? ⟨g7, 2, none⟩ = some (.bool false) ∧ w'.cell? ⟨g7, 3, none⟩ = some (.bool false) ∧ w'.cell? ⟨g7, 4, none⟩ = some (.bool false) ∧ w'.cell? ⟨g7, 5, none⟩ = some (.bool true) ∧ w'.cell? ⟨g7, 6, none⟩ = some (.int .i64 0) ∧ w'.cell? ⟨g7, 7, none⟩ = some (.int .i64 3) ∧ w'.cell? ⟨g7, 8, none⟩ = some s7.v ∧ w'.cell? ⟨g7, 9, none⟩ = some nl.v ∧ w'.cell? ⟨g7, 10, none⟩ = some nl.v ∧ w'.cell? ⟨g7, 11, none⟩ = some nl.v ∧ w'.cell? ⟨w.heap.size, 0, none⟩ = some (.string ⟨#[1, 97, 0]⟩) ∧ w'.cell? ⟨w.heap.size, 1, none⟩ = some (.int .u16 1) ∧ w'.cell? ⟨w.heap.size, 2, none⟩ = some (.int .u16 1))
    (first | with_reducible exact HS.out | with_reducible exact HSd.out | with_reducible exact HS9.out | with_reducible exact HS10.out)
    (first
      | (go_at_call 24; refine (HQ.out _).mono ?_; rintro e w9 ⟨s9, rfl, hr9, hb9⟩; have hd9 := (below_drewN W7 1).trans hb9; have HB9 := Lib.hid (HB8.out.trans (hd9.mono HB8.out.size)); have HR9 := Lib.hid hr9; have HM9 := Lib.hid (HR8.out.below hd9); have HC9 := Lib.hid (HC8.out.below hd9); have HQ9 := Lib.hid (HQ8.out.below hd9); have HS9 := Lib.hid (look7 HC9.out HQ9.out); clear hb9 hr9 hd9)
      | (go_at_call 22; refine (HMT.out _ _ _ HR9.out HM9.out).mono ?_; rintro e w10 ⟨rfl, hb10⟩; have HB10 := Lib.hid (HB9.out.trans (hb10.mono HB9.out.size)); have HS10 := Lib.hid (look7 (HC9.out.below hb10) (HQ9.out.below hb10)); clear hb10))
  all_goals
    rename_i hheld
    clear hheld
    go_wp2
    go_ret
    exact ⟨rfl, HB10.out⟩
end Go.Proofs.Ytljfkjbagebncaa
