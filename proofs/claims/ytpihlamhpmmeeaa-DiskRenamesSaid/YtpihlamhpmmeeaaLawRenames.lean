/-
  The law DiskRenames comes out true; no older memory is changed.
-/
import Derived.Test.YtpihlamhpmmeeaaRenStep
namespace Go.Proofs.Ytpihlamhpmmeeaa
open Go.RowKit
theorem size_alloc (w : World) (o : Obj) : (w.alloc o).heap.size = w.heap.size + 1 := by simp
theorem two_alloc (w : World) (o1 o2 : Obj) : ((w.alloc o1).alloc o2).heap[w.heap.size]? = some o1 ∧ ((w.alloc o1).alloc o2).heap[w.heap.size + 1]? = some o2 := by
  have h1 := heap_alloc_new w o1
  have h2 := heap_alloc_new (w.alloc o1) o2
  rw [size_alloc] at h2
  exact ⟨(((Below.refl (w.heap.size + 1) (w.alloc o1)).alloc (by rw [size_alloc]; omega) o2).block w.heap.size (by omega)).trans h1, h2⟩
set_option maxRecDepth 100000 in
set_option maxHeartbeats 16000000 in
theorem lawRenames_any (x0 x1 y0 y1 : ByteArray) (v : Value) (w : World) (hp : Picks w v) :
    Calls Try.prog 7 #[.agg #[.string x0, .string x1], .agg #[.string y0, .string y1], v] w fun e w' => e = .returned (.bool true) ∧ Below w.heap.size w w' := by
  obtain ⟨ps, hps⟩ := hp
  have HRP := Lib.hid hps
  obtain ⟨_, _, ap, capp, rfl, _⟩ := hps
  go_enter Try.func7, Try.ntmps7
  go_wp2_with fail
  refine (awake_any _).mono ?_
  rintro e w1 ⟨rfl, hb1⟩
  have p1 : Blk 46 w1 w.heap.size (.string x0) (.string x1) := (hb1.block w.heap.size (by rw [size_alloc, size_alloc]; omega)).trans (two_alloc w _ _).1
  have r1 : Blk 46 w1 (w.heap.size + 1) (.string y0) (.string y1) := (hb1.block (w.heap.size + 1) (by rw [size_alloc, size_alloc]; omega)).trans (two_alloc w _ _).2
  have HP1 := Lib.hid p1
  have HQ1 := Lib.hid r1
  have HB1 : Hid (Below w.heap.size w w1) := Lib.hid ((((Below.refl w.heap.size w).alloc (Nat.le_refl _) (.cells #[.string x0, .string x1] 46)).alloc (by simp) (.cells #[.string y0, .string y1] 46)).trans (hb1.mono (by simp; omega)))
  clear p1 r1 hb1
  go_wp2_with fail
  refine (new_any 100000 (by decide) w1).mono ?_
  rintro e w2 ⟨rfl, hp2, hb2⟩
  obtain ⟨S2, hn2, _⟩ := RB.new hp2 hb2 HB1.out HB1.out.size HP1.out HQ1.out
  obtain ⟨b, hb⟩ : ∃ b, b = w1.heap.size := ⟨_, rfl⟩
  have H2 : Hid (RB w.heap.size S2 w b w.heap.size (w.heap.size + 1) x0 x1 y0 y1 (dk 0 []) w2) := Lib.hid (by rw [hb]; exact hn2)
  rw [← hb]
  clear hp2 hb2 hn2 hb HP1 HQ1 HB1
  go_wp2_with fail
  go_loopw [9] (fun i wr => ∃ (k : Nat) (A B C D : ByteArray), k ≤ 2 ∧ i = .int .i64 (k : Int) ∧ (1 ≤ k → A.size ≤ 200 ∧ C.size ≤ 200) ∧ (2 ≤ k → B.size ≤ 200 ∧ D.size ≤ 200) ∧ RB w.heap.size S2 w b w.heap.size (w.heap.size + 1) A B C D (dk 0 []) wr) (fun i _ => 2 - (intOf i).toNat)
  case atStart => exact ⟨0, _, _, _, _, by omega, rfl, by omega, by omega, H2.out⟩
  case round =>
    obtain ⟨k, A, B, C, D, hk, rfl, hs1, hs2, hrb⟩ := hrel
    have H3 := Lib.hid hrb
    clear hrb H2
    rcases (by omega : k = 0 ∨ k = 1 ∨ k = 2) with rfl | rfl | rfl
    · obtain ⟨t, ht, hsh⟩ := short_any A 200
      obtain ⟨u, hu, hsu⟩ := short_any C 200
      have HSH := Lib.hid hsh
      have HSU := Lib.hid hsu
      have c0 := H3.out.p.cell0
      have f0 := H3.out.p.frozen0
      have q0 := H3.out.q.cell0
      have g0 := H3.out.q.frozen0
      clear hsh hsu hs1 hs2
      go_wp2_with fail
      refine (HSH.out wr).mono ?_
      rintro e w4 ⟨rfl, rfl⟩
      go_wp2_with fail
      refine (HSU.out _).mono ?_
      rintro e w4 ⟨rfl, rfl⟩
      go_wp2_with fail
      go_roundw
      case rel => exact ⟨1, t, B, u, D, by omega, rfl, fun _ => ⟨ht, hu⟩, by omega, (H3.out.setP0 (Nat.le_refl _) (by omega) t).setQ0 (by omega) (by omega) u⟩
      case measure => simp [intOf]
    · obtain ⟨t, ht, hsh⟩ := short_any B 200
      obtain ⟨u, hu, hsu⟩ := short_any D 200
      have HSH := Lib.hid hsh
      have HSU := Lib.hid hsu
      have c0 := H3.out.p.cell1
      have f0 := H3.out.p.frozen1
      have q0 := H3.out.q.cell1
      have g0 := H3.out.q.frozen1
      clear hsh hsu hs2
      go_wp2_with fail
      refine (HSH.out wr).mono ?_
      rintro e w4 ⟨rfl, rfl⟩
      go_wp2_with fail
      refine (HSU.out _).mono ?_
      rintro e w4 ⟨rfl, rfl⟩
      go_wp2_with fail
      go_roundw
      case rel => exact ⟨2, A, t, C, u, by omega, rfl, fun _ => hs1 (by omega), fun _ => ⟨ht, hu⟩, (H3.out.setP1 (Nat.le_refl _) (by omega) t).setQ1 (by omega) (by omega) u⟩
      case measure => simp [intOf]
    · obtain ⟨hA, hC⟩ := hs1 (by omega)
      obtain ⟨hB, hD⟩ := hs2 (by omega)
      have lA := size_list A
      have lB := size_list B
      have lC := size_list C
      have lD := size_list D
      clear hs1 hs2
      have cc := H3.out.p.cell0
      have AG1 := Lib.hid (H3.out.app nA gA A hA (by decide) (by omega) (by decide) (t1 A.data.toList))
      go_wp2_with fail
      refine AG1.out.mono ?_
      rintro e w' ⟨rfl, S', h'⟩
      have G1 := Lib.hid h'
      clear h' AG1 cc H3
      have AG2 := Lib.hid (G1.out.sync nA gA (by omega) (by simp [findF]) (t2 A.data.toList))
      go_wp2_with fail
      refine AG2.out.mono ?_
      rintro e w' ⟨rfl, S', h'⟩
      have G2 := Lib.hid h'
      clear h' AG2 G1
      have cc := G2.out.p.cell1
      have AG3 := Lib.hid (G2.out.app nA gA B hB (by simp only [usedL, Fl.size, List.map_cons, List.sum_cons, List.map_nil, List.sum_nil]; omega) (by omega) (by simp only [List.length_cons, List.length_nil]; omega) (t3 A.data.toList B.data.toList))
      go_wp2_with fail
      refine AG3.out.mono ?_
      rintro e w' ⟨rfl, S', h'⟩
      have G3 := Lib.hid h'
      clear h' AG3 cc G2
      have cc := G3.out.q.cell0
      have AG4 := Lib.hid (G3.out.app nB gB C hC (by simp only [usedL, Fl.size, List.map_cons, List.sum_cons, List.map_nil, List.sum_nil, gFA, List.length_append]; omega) (by omega) (by simp only [List.length_cons, List.length_nil]; omega) (t4 A.data.toList B.data.toList C.data.toList))
      go_wp2_with fail
      refine AG4.out.mono ?_
      rintro e w' ⟨rfl, S', h'⟩
      have G4 := Lib.hid h'
      clear h' AG4 cc G3
      have AG5 := Lib.hid (G4.out.sync nB gB (by omega) (by simp [findF]) (t5 A.data.toList B.data.toList C.data.toList))
      go_wp2_with fail
      refine AG5.out.mono ?_
      rintro e w' ⟨rfl, S', h'⟩
      have G5 := Lib.hid h'
      clear h' AG5 G4
      have cc := G5.out.q.cell1
      have AG6 := Lib.hid (G5.out.app nB gB D hD (by simp only [usedL, Fl.size, List.map_cons, List.sum_cons, List.map_nil, List.sum_nil, gFA, List.length_append]; omega) (by omega) (by simp only [List.length_cons, List.length_nil]; omega) (t6 A.data.toList B.data.toList C.data.toList D.data.toList))
      go_wp2_with fail
      refine AG6.out.mono ?_
      rintro e w' ⟨rfl, S', h'⟩
      have G6 := Lib.hid h'
      clear h' AG6 cc G5
      have cc := G6.out.q.cell1
      have AG7 := Lib.hid (G6.out.app nC gC ⟨#[115, 116, 97, 121, 115]⟩ (by decide +kernel) (by simp only [usedL, Fl.size, List.map_cons, List.sum_cons, List.map_nil, List.sum_nil, gFA, gFB, List.length_append]; omega) (by omega) (by simp only [List.length_cons, List.length_nil]; omega) (t7 A.data.toList B.data.toList C.data.toList D.data.toList))
      go_wp2_with fail
      refine AG7.out.mono ?_
      rintro e w' ⟨rfl, S', h'⟩
      have G7 := Lib.hid h'
      clear h' AG7 cc G6
      have AG8 := Lib.hid (G7.out.sync nC gC (by omega) (by simp [findF]) (t8 A.data.toList B.data.toList C.data.toList D.data.toList))
      go_wp2_with fail
      refine AG8.out.mono ?_
      rintro e w' ⟨rfl, S', h'⟩
      have G8 := Lib.hid h'
      clear h' AG8 G7
      have AG9 := Lib.hid (RB.ren _ _ _ _ G8.out)
      go_wp2_with fail
      refine AG9.out.mono ?_
      rintro e w' ⟨rfl, S', h'⟩
      have G9 := Lib.hid h'
      clear h' AG9 G8
      have AG10 := Lib.hid (G9.out.void nA gA (t10 _ _))
      go_wp2_with fail
      refine AG10.out.mono ?_
      rintro e w' ⟨rfl, h'⟩
      have G10 := Lib.hid h'
      clear h' AG10 G9
      have eAB : (⟨(gFR A.data.toList B.data.toList).data.toArray⟩ : ByteArray) = A ++ B := by
        apply ByteArray.ext
        apply Array.toList_inj.1
        rw [app_list]
        rfl
      have r11 := G10.out.read nB gB (t11 _ _)
      rw [eAB] at r11
      have AG11 := Lib.hid r11
      clear r11 eAB
      go_wp2_with fail
      refine AG11.out.mono ?_
      rintro e w' ⟨rfl, h'⟩
      have G11 := Lib.hid h'
      clear h' AG11 G10
      have hadd : ∀ w, (Op.stringOp .add A B).run Try.prog w = .ok (.string (A ++ B)) w := fun w => run_string_add_sum w _ _ (by omega)
      have c0 := G11.out.p.cell0
      have c1 := G11.out.p.cell1
      have hAB := app_size A B
      obtain ⟨l, hl⟩ : ∃ l, l = A.data.toList ++ B.data.toList := ⟨_, rfl⟩
      have hll : l.length = A.size + B.size := by rw [hl, List.length_append, lA, lB]
      have hltk : l.take A.size = A.data.toList := by rw [hl, lA, List.take_left]
      have AG12 := Lib.hid (RB.crash (l := l) (N := A.size) (h := by rw [hl, lA]; exact G11.out) HRP.out rfl (by omega))
      have HLL := Lib.hid hll
      have HTK := Lib.hid hltk
      clear hl hll hltk lA lB lC lD hC hD
      go_wp2_with fail
      refine AG12.out.mono ?_
      rintro e w' ⟨⟨u, rfl⟩, pp, S', h'⟩
      have G12 := Lib.hid h'
      clear h' AG12 G11 c0 c1
      have hAl : A.size ≤ l.length := by rw [HLL.out]; omega
      have hlen := lx_len hAl pp
      obtain ⟨X, hX⟩ : ∃ X, X = lx A.size l pp := ⟨_, rfl⟩
      obtain ⟨xs, hxs⟩ : ∃ xs : ByteArray, xs = ⟨X.toArray⟩ := ⟨_, rfl⟩
      have hxl : xs.size = X.length := by rw [hxs, ba_size]
      rw [← hX, ← hxl, HLL.out] at hlen
      have htk : xs.extract 0 A.size = A := by
        rw [hxs, ext_take, hX, lx_take hAl, HTK.out]
      rw [← hX] at G12
      have r13 := G12.out.read nB gB (t12 X)
      rw [← hxs] at r13
      have AG13 := Lib.hid r13
      have HU : Hid (usedL [⟨nB, X, X.length⟩, gFC] = xs.size + 5) := Lib.hid (by
        simp only [usedL, Fl.size, List.map_cons, List.sum_cons, List.map_nil, List.sum_nil, gFC]
        rw [hxl]
        rfl)
      obtain ⟨hle1, hle2⟩ := hlen
      clear r13 hX hxs hxl HLL HTK hAl
      go_wp2_with fail
      refine AG13.out.mono ?_
      rintro e w' ⟨rfl, h'⟩
      have G13 := Lib.hid h'
      clear h' AG13 G12
      have r14 := G13.out.read nC gC (t13 X)
      have AG14 : Hid (Calls Try.prog 13 #[ptr b, .string nC] w' fun e w' => e = .returned (.tuple #[.string ⟨#[115, 116, 97, 121, 115]⟩, .int .i64 0]) ∧ RB w.heap.size _ w b w.heap.size (w.heap.size + 1) A B C D (dk 9 [⟨nB, X, X.length⟩, gFC]) w') := Lib.hid r14
      clear r14
      go_wp2_with fail
      refine AG14.out.mono ?_
      rintro e w14 ⟨rfl, h'⟩
      have G14 := Lib.hid h'
      clear h' AG14 G13
      have G15 := Lib.hid (G14.out.mv (Below.refl w14.heap.size w14).drew)
      have u15 := G15.out.used (by rw [HU.out]; omega)
      rw [HU.out] at u15
      have AU : Hid (Calls Try.prog 18 #[ptr b] w14.drew fun e w' => e = .returned (.int .i64 ((xs.size : Int) + 5)) ∧ RB w.heap.size _ w b w.heap.size (w.heap.size + 1) A B C D (dk 9 [⟨nB, X, X.length⟩, gFC]) w') := Lib.hid u15
      have HC := Lib.hid G15.out.p.cell0
      have x1 : IntKind.i64.wrap ((xs.size : Int) + 5) = (xs.size : Int) + 5 := Go.IntWalk.i64_in _ (by omega)
      have q1 : (A.size : Int) ≤ (xs.size : Int) := by omega
      have q2 : (xs.size : Int) ≤ (A.size : Int) + (B.size : Int) := by omega
      clear u15 G14 HU hadd
      go_upto_region 27 with fail
      go_region_held3 (fun w' => w'.cell? ⟨w.heap.size, 0, none⟩ = some (.string A))
        (first | with_reducible exact HC.out | with_reducible exact HC2.out | fail)
        (first | (go_at_call 18; refine AU.out.mono ?_; rintro e w16 ⟨rfl, h'⟩; have G16 := Lib.hid h'; have HC2 := Lib.hid h'.p.cell0; clear h') | fail)
      go_wp2
      go_ret
      exact ⟨rfl, G16.out.na.bel⟩
end Go.Proofs.Ytpihlamhpmmeeaa
