/-
  The document's record of an entry.
-/
import Derived.Test.YtopnmiakljpgbaaEntRecs
namespace Go.Proofs.Ytopnmiakljpgbaa
open Go.RowKit
theorem numsB_two (x y : Int) : numsB [x, y] = nb8 x ++ nb8 y := by simp [numsB]
theorem byte_at (w : World) (g : Nat) (b : UInt8) (hc : w.cell? ⟨g, 0, none⟩ = some (.int .u8 (b.toNat : Int))) : (convert 75 9 (.slice (some ⟨g, 0, none⟩) 1 1)).run Try.prog w = .ok (.string ⟨#[b]⟩) w :=
  run_convert_bytes_back (P := Try.prog) w 75 9 5 ⟨g, 0, none⟩ 1 [b] Try.underlying75 Try.underlying5 Try.underlying9 (fun j hj => by
    have : j = 0 := by simpa using hj
    subst this
    exact hc)
theorem byte_cell (w : World) (b : UInt8) : (w.alloc (.cells #[.int .u8 (b.toNat : Int)] 5)).cell? ⟨w.heap.size, 0, none⟩ = some (.int .u8 (b.toNat : Int)) :=
  World.news_of_block (cs := #[Value.int .u8 (b.toNat : Int)]) (t := 5) (fr := (0, 0)) (heap_alloc_new w _) 0 (.int .u8 (b.toNat : Int)) rfl
set_option maxRecDepth 100000 in
set_option maxHeartbeats 6400000 in
theorem entry_any {w : World} {base bt : Int} {a : Option Addr} {n cap : Nat} {L : List En} (h : RdE w (.slice a n cap) L) (hb : -1000 ≤ base ∧ base ≤ 1125899906842624) (j : Nat) (x : En) (hx : L[j]? = some x) (hl : L.length ≤ 100000) (hd : x.data.size ≤ 100000) :
    Calls Try.prog 57 #[lv base bt (.slice a n cap), it j] w fun e w' => e = .returned (str (entB (base + j + 1) x)) ∧ Below w.heap.size w w' := by
  obtain ⟨e1, g, o, rfl, hg, c0, c1, c2⟩ := h.at hx
  have hj : j < n := by have := (List.getElem?_eq_some_iff.1 hx).1; omega
  have p1 : (j : Int) < (n : Int) := by omega
  obtain ⟨ix, hix⟩ : ∃ ix : Int, ix = base + j + 1 := ⟨_, rfl⟩
  have w1' : IntKind.i64.wrap (base + 1) = base + 1 := by unfold IntKind.wrap; simp only [IntKind.bits, IntKind.signed]; simp; omega
  have w2' : IntKind.i64.wrap (base + 1 + (j : Int)) = ix := by rw [hix]; unfold IntKind.wrap; simp only [IntKind.bits, IntKind.signed]; simp; omega
  rw [← hix]
  obtain ⟨sI, hI⟩ : ∃ N : ByteArray, N = ⟨(nb8 ix).toArray⟩ := ⟨_, rfl⟩
  obtain ⟨sT, hT⟩ : ∃ N : ByteArray, N = ⟨(nb8 x.term).toArray⟩ := ⟨_, rfl⟩
  have NI : Hid (∀ w', Calls Try.prog 56 #[it ix] w' fun e w'' => e = .returned (.string sI) ∧ Below w'.heap.size w' w'') := Lib.hid (fun w' => by rw [hI]; exact number_any ix w')
  have NT : Hid (∀ w', Calls Try.prog 56 #[it x.term] w' fun e w'' => e = .returned (.string sT) ∧ Below w'.heap.size w' w'') := Lib.hid (fun w' => by rw [hT]; exact number_any x.term w')
  have hIl : sI.size = 8 := by rw [hI, ba_len]; rfl
  have hTl : sT.size = 8 := by rw [hT, ba_len]; rfl
  have hby2 : IntKind.u8.wrap x.kind = ((lowB x.kind).toNat : Int) := wrap_low _
  have hby : x.kind % 256 = ((lowB x.kind).toNat : Int) := by rw [← wrap_low]; rfl
  obtain ⟨s1', h1⟩ : ∃ s : ByteArray, s = ⟨#[69]⟩ ++ sI := ⟨_, rfl⟩
  have z1 : s1'.size = 9 := by rw [h1, ByteArray.size_append, hIl]; rfl
  obtain ⟨s2', h2⟩ : ∃ s : ByteArray, s = s1' ++ sT := ⟨_, rfl⟩
  have z2 : s2'.size = 17 := by rw [h2, ByteArray.size_append, z1, hTl]
  obtain ⟨s3', h3⟩ : ∃ s : ByteArray, s = s2' ++ ⟨#[lowB x.kind]⟩ := ⟨_, rfl⟩
  have z3 : s3'.size = 18 := by rw [h3, ByteArray.size_append, z2]; rfl
  obtain ⟨s4', h4⟩ : ∃ s : ByteArray, s = s3' ++ x.data := ⟨_, rfl⟩
  have hR : s4' = ⟨(entB ix x).toArray⟩ := by
    rw [h4, h3, h2, h1, hI, hT, ba_of x.data, show (⟨#[69]⟩ : ByteArray) = ⟨([69] : Bs).toArray⟩ from rfl, show (⟨#[lowB x.kind]⟩ : ByteArray) = ⟨([lowB x.kind] : Bs).toArray⟩ from rfl, ba_app, ba_app, ba_app, ba_app]
    simp [entB, numsB_two]
  unfold str
  rw [← hR]
  have add1 := add_str h1 (by decide) (by omega)
  have add2 := add_str h2 (by omega) (by omega)
  have add3 := add_str h3 (by omega) (by simp [ByteArray.size])
  have add4 := add_str h4 (by omega) (by omega)
  have HH := Lib.hid (show Below w.heap.size w _ from (two_new w #[it base, it bt, .slice (some ⟨g, o, none⟩) n cap] #[it x.term, it x.kind, .string x.data] 24 31).2.2.2)
  have HA := Lib.hid (two_new w #[it base, it bt, .slice (some ⟨g, o, none⟩) n cap] #[it x.term, it x.kind, .string x.data] 24 31)
  clear hI hT hIl hTl h1 h2 h3 h4 z1 z2 z3 hR hix hx hl hd e1 h hb
  go_enter Try.func57, Try.ntmps57
  go_upto_region 2 with fail
  obtain ⟨w1, hw1⟩ : ∃ w1, w1 = (w.alloc (.cells #[it base, it bt, .slice (some ⟨g, o, none⟩) n cap] 24)).alloc (.cells #[it x.term, it x.kind, .string x.data] 31) := ⟨_, rfl⟩
  rw [← hw1] at HA HH ⊢
  clear hw1
  have H0 : Hid (Below w1.heap.size w1 w1.drew) := Lib.hid (Below.refl _ w1).drew
  have HK := Lib.hid (fun w' (hb : Below w1.heap.size w1 w') => And.intro (c3 (HA.out.1.below hb)) (c3 (HA.out.2.1.below hb)))
  have hcv : ∀ (g : Nat) (w' : World), w'.cell? ⟨g, 0, none⟩ = some (.int .u8 ((lowB x.kind).toNat : Int)) → (convert 75 9 (.slice (some ⟨g, 0, none⟩) 1 1)).run Try.prog w' = .ok (.string ⟨#[lowB x.kind]⟩) w' := fun g w' hc => byte_at w' g _ hc
  have BN := Lib.hid (fun w' => one_new w' (.cells #[.int .u8 ((lowB x.kind).toNat : Int)] 5))
  have KN := Lib.hid (fun w' : World => byte_cell w' (lowB x.kind))
  have H00 : Hid (Below w1.heap.size w1 (w1.alloc (.cells #[.int .u8 ((lowB x.kind).toNat : Int)] 5)).drew) := Lib.hid (BN.out w1).drew
  refine wp_region_held_drew (S := (fun w' => (w'.cell? ⟨w.heap.size, 0, none⟩ = some (it base) ∧ w'.cell? ⟨w.heap.size, 1, none⟩ = some (it bt) ∧ w'.cell? ⟨w.heap.size, 2, none⟩ = some (.slice (some ⟨g, o, none⟩) n cap)) ∧
      (w'.cell? ⟨w.heap.size + 1, 0, none⟩ = some (it x.term) ∧ w'.cell? ⟨w.heap.size + 1, 1, none⟩ = some (it x.kind) ∧ w'.cell? ⟨w.heap.size + 1, 2, none⟩ = some (.string x.data)))) (by kernel_rfl) (HK.out _ H0.out) (fun hHeld => ?_)
  refine' wpAnyH_take (i := 0) (v := ?v1) rfl (by kernel_rfl) (by kernel_rfl) (by kernel_rfl) (fun _ _ _ h => h) (Or.inl ⟨by rfl, ?y1⟩) (by assumption) ?r1
  case y1 => (intro w hSw; (try dsimp only at hSw); go_simp; try with_reducible rfl)
  try simp only [Act.put, List.getElem_toArray, List.getElem_cons_zero, List.setIfInBounds_toArray, List.set_cons_zero, List.set_cons_succ]
  refine' wpAnyH_take (i := 3) (v := ?v2) rfl (by kernel_rfl) (by kernel_rfl) (by kernel_rfl) (fun _ _ _ h => h) (Or.inl ⟨by rfl, ?y2⟩) (by assumption) ?r2
  case y2 => (intro w hSw; (try dsimp only at hSw); go_simp; try with_reducible rfl)
  try simp only [Act.put, List.getElem_toArray, List.getElem_cons_succ, List.getElem_cons_zero, List.setIfInBounds_toArray, List.set_cons_zero, List.set_cons_succ]
  refine' wpAnyH_take (i := 7) (v := ?v3) rfl (by kernel_rfl) (by kernel_rfl) (by kernel_rfl) (fun _ _ _ h => h) (Or.inl ⟨by rfl, ?y3⟩) (by assumption) ?r3
  case y3 => (intro w hSw; (try dsimp only at hSw); go_simp; try with_reducible rfl)
  try simp only [Act.put, List.getElem_toArray, List.getElem_cons_succ, List.getElem_cons_zero, List.setIfInBounds_toArray, List.set_cons_zero, List.set_cons_succ]
  refine' wpAnyH_take (i := 11) (v := ?v4) rfl (by kernel_rfl) (by kernel_rfl) (by kernel_rfl) (fun _ _ _ h => h) (Or.inl ⟨by rfl, ?y4⟩) (by assumption) ?r4
  case y4 => (intro w hSw; (try dsimp only at hSw); go_simp; try with_reducible rfl)
  try simp only [Act.put, List.getElem_toArray, List.getElem_cons_succ, List.getElem_cons_zero, List.setIfInBounds_toArray, List.set_cons_zero, List.set_cons_succ]
  refine' wpAnyH_take (i := 17) (v := ?v5) rfl (by kernel_rfl) (by kernel_rfl) (by kernel_rfl) (fun _ _ _ h => h) (Or.inl ⟨by rfl, ?y5⟩) (by assumption) ?r5
  case y5 => (intro w hSw; (try dsimp only at hSw); go_simp; try with_reducible rfl)
  try simp only [Act.put, List.getElem_toArray, List.getElem_cons_succ, List.getElem_cons_zero, List.setIfInBounds_toArray, List.set_cons_zero, List.set_cons_succ]
  refine' wpAnyH_take (i := 1) (v := ?v6) rfl (by kernel_rfl) (by kernel_rfl) (by kernel_rfl) (fun _ _ _ h => h) (Or.inl ⟨by rfl, ?y6⟩) (by assumption) ?r6
  case y6 => (intro w hSw; (try dsimp only at hSw); go_simp; try with_reducible rfl)
  try simp only [Act.put, List.getElem_toArray, List.getElem_cons_succ, List.getElem_cons_zero, List.setIfInBounds_toArray, List.set_cons_zero, List.set_cons_succ]
  refine' wpAnyH_take (i := 8) (v := ?v7) rfl (by kernel_rfl) (by kernel_rfl) (by kernel_rfl) (fun _ _ _ h => h) (Or.inl ⟨by rfl, ?y7⟩) (by assumption) ?r7
  case y7 => (intro w hSw; (try dsimp only at hSw); go_simp; try with_reducible rfl)
  try simp only [Act.put, List.getElem_toArray, List.getElem_cons_succ, List.getElem_cons_zero, List.setIfInBounds_toArray, List.set_cons_zero, List.set_cons_succ]
  refine' wpAnyH_take (i := 12) (v := ?v8) rfl (by kernel_rfl) (by kernel_rfl) (by kernel_rfl) (fun _ _ _ h => h) (Or.inl ⟨by rfl, ?y8⟩) (by assumption) ?r8
  case y8 => (intro w hSw; (try dsimp only at hSw); go_simp; try with_reducible rfl)
  try simp only [Act.put, List.getElem_toArray, List.getElem_cons_succ, List.getElem_cons_zero, List.setIfInBounds_toArray, List.set_cons_zero, List.set_cons_succ]
  refine' wpAnyH_take (i := 18) (v := ?v9) rfl (by kernel_rfl) (by kernel_rfl) (by kernel_rfl) (fun _ _ _ h => h) (Or.inl ⟨by rfl, ?y9⟩) (by assumption) ?r9
  case y9 => (intro w hSw; (try dsimp only at hSw); go_simp; try with_reducible rfl)
  try simp only [Act.put, List.getElem_toArray, List.getElem_cons_succ, List.getElem_cons_zero, List.setIfInBounds_toArray, List.set_cons_zero, List.set_cons_succ]
  refine' wpAnyH_take (i := 2) (v := ?v10) rfl (by kernel_rfl) (by kernel_rfl) (by kernel_rfl) (fun _ _ _ h => h) (Or.inl ⟨by rfl, ?y10⟩) (by assumption) ?r10
  case y10 => (intro w hSw; (try dsimp only at hSw); go_simp; try with_reducible rfl)
  try simp only [Act.put, List.getElem_toArray, List.getElem_cons_succ, List.getElem_cons_zero, List.setIfInBounds_toArray, List.set_cons_zero, List.set_cons_succ]
  refine' wpAnyH_take (i := 13) (v := ?v11) rfl (by kernel_rfl) (by kernel_rfl) (by kernel_rfl) (fun _ _ _ h => h) (Or.inl ⟨by rfl, ?y11⟩) (by assumption) ?r11
  case y11 => (intro w hSw; (try dsimp only at hSw); go_simp; try with_reducible rfl)
  try simp only [Act.put, List.getElem_toArray, List.getElem_cons_succ, List.getElem_cons_zero, List.setIfInBounds_toArray, List.set_cons_zero, List.set_cons_succ]
  refine' wpAnyH_take (i := 4) (v := ?v12) rfl (by kernel_rfl) (by kernel_rfl) (by kernel_rfl) (fun _ _ _ h => h) (Or.inl ⟨by rfl, ?y12⟩) (by assumption) ?r12
  case y12 => (intro w hSw; (try dsimp only at hSw); go_simp; try with_reducible rfl)
  try simp only [Act.put, List.getElem_toArray, List.getElem_cons_succ, List.getElem_cons_zero, List.setIfInBounds_toArray, List.set_cons_zero, List.set_cons_succ]
  refine wpAnyH_ready (rs := [5, 14]) (by kernel_rfl) (by simp) ?_
  refine AllReadyH.cons rfl (fun K hK => ?_) ?_
  ·
    go_simp
    refine (NI.out _).mono ?_
    rintro e wz1 ⟨rfl, hb⟩
    have BB2 : Hid (Below w1.heap.size w1 wz1) := Lib.hid (H0.out.trans (hb.mono H0.out.size))
    clear hb
    go_wp2_with fail
    refine hK.out _ _ (by first | with_reducible exact HK.out _ BB2.out | exact HK.out _ BB2.out) (fun hHeld => ?_)
    clear hK K
    try simp only [Act.put, List.getElem_toArray, List.getElem_cons_succ, List.getElem_cons_zero, List.setIfInBounds_toArray, List.set_cons_zero, List.set_cons_succ]
    refine' wpAnyH_take (i := 6) (v := ?v13) rfl (by kernel_rfl) (by kernel_rfl) (by kernel_rfl) (fun _ _ _ h => h) (Or.inl ⟨by rfl, ?y13⟩) (by assumption) ?r13
    case y13 => (intro w hSw; (try dsimp only at hSw); go_simp; try with_reducible rfl)
    try simp only [Act.put, List.getElem_toArray, List.getElem_cons_succ, List.getElem_cons_zero, List.setIfInBounds_toArray, List.set_cons_zero, List.set_cons_succ]
    refine wpAnyH_ready (rs := [9, 14]) (by kernel_rfl) (by simp) ?_
    refine AllReadyH.cons rfl (fun K hK => ?_) ?_
    ·
      go_simp
      refine (NT.out _).mono ?_
      rintro e wz4 ⟨rfl, hb⟩
      have BB5 : Hid (Below w1.heap.size w1 wz4) := Lib.hid (BB2.out.trans (hb.mono BB2.out.size))
      clear hb
      go_wp2_with fail
      refine hK.out _ _ (by first | with_reducible exact HK.out _ BB5.out | exact HK.out _ BB5.out) (fun hHeld => ?_)
      clear hK K
      try simp only [Act.put, List.getElem_toArray, List.getElem_cons_succ, List.getElem_cons_zero, List.setIfInBounds_toArray, List.set_cons_zero, List.set_cons_succ]
      refine' wpAnyH_take (i := 10) (v := ?v14) rfl (by kernel_rfl) (by kernel_rfl) (by kernel_rfl) (fun _ _ _ h => h) (Or.inl ⟨by rfl, ?y14⟩) (by assumption) ?r14
      case y14 => (intro w hSw; (try dsimp only at hSw); go_simp; try with_reducible rfl)
      try simp only [Act.put, List.getElem_toArray, List.getElem_cons_succ, List.getElem_cons_zero, List.setIfInBounds_toArray, List.set_cons_zero, List.set_cons_succ]
      refine wpAnyH_ready (rs := [14]) (by kernel_rfl) (by simp) ?_
      refine AllReadyH.cons rfl (fun K hK => ?_) AllReadyH.nil
      go_simp
      have BB7 : Hid (Below w1.heap.size w1 (wz4.alloc (.cells #[.int .u8 ((lowB x.kind).toNat : Int)] 5))) := Lib.hid (BB5.out.trans ((BN.out wz4).mono BB5.out.size))
      have kk8 : (wz4.alloc (.cells #[.int .u8 ((lowB x.kind).toNat : Int)] 5)).cell? ⟨wz4.heap.size, 0, none⟩ = some (.int .u8 ((lowB x.kind).toNat : Int)) := KN.out wz4
      refine hK.out _ _ (by first | with_reducible exact HK.out _ BB7.out | exact HK.out _ BB7.out) (fun hHeld => ?_)
      clear hK K
      try simp only [Act.put, List.getElem_toArray, List.getElem_cons_succ, List.getElem_cons_zero, List.setIfInBounds_toArray, List.set_cons_zero, List.set_cons_succ]
      refine wpAnyH_ready (rs := [15]) (by kernel_rfl) (by simp) ?_
      refine AllReadyH.cons rfl (fun K hK => ?_) AllReadyH.nil
      go_simp
      refine hK.out _ _ (by first | with_reducible exact HK.out _ BB7.out | exact HK.out _ BB7.out) (fun hHeld => ?_)
      clear hK K
      try simp only [Act.put, List.getElem_toArray, List.getElem_cons_succ, List.getElem_cons_zero, List.setIfInBounds_toArray, List.set_cons_zero, List.set_cons_succ]
      refine' wpAnyH_take (i := 16) (v := ?v15) rfl (by kernel_rfl) (by kernel_rfl) (by kernel_rfl) (fun _ _ _ h => h) (Or.inl ⟨by rfl, ?y15⟩) (by assumption) ?r15
      case y15 => (intro w hSw; (try dsimp only at hSw); go_simp; try with_reducible rfl)
      try simp only [Act.put, List.getElem_toArray, List.getElem_cons_succ, List.getElem_cons_zero, List.setIfInBounds_toArray, List.set_cons_zero, List.set_cons_succ]
      refine' wpAnyH_take (i := 19) (v := ?v16) rfl (by kernel_rfl) (by kernel_rfl) (by kernel_rfl) (fun _ _ _ h => h) (Or.inl ⟨by rfl, ?y16⟩) (by assumption) ?r16
      case y16 => (intro w hSw; (try dsimp only at hSw); go_simp; try with_reducible rfl)
      try simp only [Act.put, List.getElem_toArray, List.getElem_cons_succ, List.getElem_cons_zero, List.setIfInBounds_toArray, List.set_cons_zero, List.set_cons_succ]
      refine' wpAnyH_take (i := 20) (v := ?v17) rfl (by kernel_rfl) (by kernel_rfl) (by kernel_rfl) (fun _ _ _ h => h) (Or.inl ⟨by rfl, ?y17⟩) (by assumption) ?r17
      case y17 => (intro w hSw; (try dsimp only at hSw); go_simp; try with_reducible rfl)
      try simp only [Act.put, List.getElem_toArray, List.getElem_cons_succ, List.getElem_cons_zero, List.setIfInBounds_toArray, List.set_cons_zero, List.set_cons_succ]
      refine wpAnyH_done (by kernel_rfl) ?_ _
      go_wp2
      go_ret
      exact ⟨rfl, HH.out.trans (BB7.out.mono HH.out.size)⟩
    refine AllReadyH.cons rfl (fun K hK => ?_) AllReadyH.nil
    go_simp
    have BB9 : Hid (Below w1.heap.size w1 (wz1.alloc (.cells #[.int .u8 ((lowB x.kind).toNat : Int)] 5))) := Lib.hid (BB2.out.trans ((BN.out wz1).mono BB2.out.size))
    have kk10 : (wz1.alloc (.cells #[.int .u8 ((lowB x.kind).toNat : Int)] 5)).cell? ⟨wz1.heap.size, 0, none⟩ = some (.int .u8 ((lowB x.kind).toNat : Int)) := KN.out wz1
    refine hK.out _ _ (by first | with_reducible exact HK.out _ BB9.out | exact HK.out _ BB9.out) (fun hHeld => ?_)
    clear hK K
    try simp only [Act.put, List.getElem_toArray, List.getElem_cons_succ, List.getElem_cons_zero, List.setIfInBounds_toArray, List.set_cons_zero, List.set_cons_succ]
    refine wpAnyH_ready (rs := [9, 15]) (by kernel_rfl) (by simp) ?_
    refine AllReadyH.cons rfl (fun K hK => ?_) ?_
    ·
      go_simp
      refine (NT.out _).mono ?_
      rintro e wz11 ⟨rfl, hb⟩
      have BB12 : Hid (Below w1.heap.size w1 wz11) := Lib.hid (BB9.out.trans (hb.mono BB9.out.size))
      have kk13 : wz11.cell? ⟨wz1.heap.size, 0, none⟩ = some (.int .u8 ((lowB x.kind).toNat : Int)) := (hb.cell (p := ⟨wz1.heap.size, 0, none⟩) (World.block_lt_of_cell? _ _ kk10)).trans kk10
      clear hb
      go_wp2_with fail
      refine hK.out _ _ (by first | with_reducible exact HK.out _ BB12.out | exact HK.out _ BB12.out) (fun hHeld => ?_)
      clear hK K
      try simp only [Act.put, List.getElem_toArray, List.getElem_cons_succ, List.getElem_cons_zero, List.setIfInBounds_toArray, List.set_cons_zero, List.set_cons_succ]
      refine' wpAnyH_take (i := 10) (v := ?v18) rfl (by kernel_rfl) (by kernel_rfl) (by kernel_rfl) (fun _ _ _ h => h) (Or.inl ⟨by rfl, ?y18⟩) (by assumption) ?r18
      case y18 => (intro w hSw; (try dsimp only at hSw); go_simp; try with_reducible rfl)
      try simp only [Act.put, List.getElem_toArray, List.getElem_cons_succ, List.getElem_cons_zero, List.setIfInBounds_toArray, List.set_cons_zero, List.set_cons_succ]
      refine wpAnyH_ready (rs := [15]) (by kernel_rfl) (by simp) ?_
      refine AllReadyH.cons rfl (fun K hK => ?_) AllReadyH.nil
      go_simp
      refine hK.out _ _ (by first | with_reducible exact HK.out _ BB12.out | exact HK.out _ BB12.out) (fun hHeld => ?_)
      clear hK K
      try simp only [Act.put, List.getElem_toArray, List.getElem_cons_succ, List.getElem_cons_zero, List.setIfInBounds_toArray, List.set_cons_zero, List.set_cons_succ]
      refine' wpAnyH_take (i := 16) (v := ?v19) rfl (by kernel_rfl) (by kernel_rfl) (by kernel_rfl) (fun _ _ _ h => h) (Or.inl ⟨by rfl, ?y19⟩) (by assumption) ?r19
      case y19 => (intro w hSw; (try dsimp only at hSw); go_simp; try with_reducible rfl)
      try simp only [Act.put, List.getElem_toArray, List.getElem_cons_succ, List.getElem_cons_zero, List.setIfInBounds_toArray, List.set_cons_zero, List.set_cons_succ]
      refine' wpAnyH_take (i := 19) (v := ?v20) rfl (by kernel_rfl) (by kernel_rfl) (by kernel_rfl) (fun _ _ _ h => h) (Or.inl ⟨by rfl, ?y20⟩) (by assumption) ?r20
      case y20 => (intro w hSw; (try dsimp only at hSw); go_simp; try with_reducible rfl)
      try simp only [Act.put, List.getElem_toArray, List.getElem_cons_succ, List.getElem_cons_zero, List.setIfInBounds_toArray, List.set_cons_zero, List.set_cons_succ]
      refine' wpAnyH_take (i := 20) (v := ?v21) rfl (by kernel_rfl) (by kernel_rfl) (by kernel_rfl) (fun _ _ _ h => h) (Or.inl ⟨by rfl, ?y21⟩) (by assumption) ?r21
      case y21 => (intro w hSw; (try dsimp only at hSw); go_simp; try with_reducible rfl)
      try simp only [Act.put, List.getElem_toArray, List.getElem_cons_succ, List.getElem_cons_zero, List.setIfInBounds_toArray, List.set_cons_zero, List.set_cons_succ]
      refine wpAnyH_done (by kernel_rfl) ?_ _
      go_wp2
      go_ret
      exact ⟨rfl, HH.out.trans (BB12.out.mono HH.out.size)⟩
    refine AllReadyH.cons rfl (fun K hK => ?_) AllReadyH.nil
    go_simp
    refine hK.out _ _ (by first | with_reducible exact HK.out _ BB9.out | exact HK.out _ BB9.out) (fun hHeld => ?_)
    clear hK K
    try simp only [Act.put, List.getElem_toArray, List.getElem_cons_succ, List.getElem_cons_zero, List.setIfInBounds_toArray, List.set_cons_zero, List.set_cons_succ]
    refine wpAnyH_ready (rs := [9]) (by kernel_rfl) (by simp) ?_
    refine AllReadyH.cons rfl (fun K hK => ?_) AllReadyH.nil
    go_simp
    refine (NT.out _).mono ?_
    rintro e wz14 ⟨rfl, hb⟩
    have BB15 : Hid (Below w1.heap.size w1 wz14) := Lib.hid (BB9.out.trans (hb.mono BB9.out.size))
    have kk16 : wz14.cell? ⟨wz1.heap.size, 0, none⟩ = some (.int .u8 ((lowB x.kind).toNat : Int)) := (hb.cell (p := ⟨wz1.heap.size, 0, none⟩) (World.block_lt_of_cell? _ _ kk10)).trans kk10
    clear hb
    go_wp2_with fail
    refine hK.out _ _ (by first | with_reducible exact HK.out _ BB15.out | exact HK.out _ BB15.out) (fun hHeld => ?_)
    clear hK K
    try simp only [Act.put, List.getElem_toArray, List.getElem_cons_succ, List.getElem_cons_zero, List.setIfInBounds_toArray, List.set_cons_zero, List.set_cons_succ]
    refine' wpAnyH_take (i := 10) (v := ?v22) rfl (by kernel_rfl) (by kernel_rfl) (by kernel_rfl) (fun _ _ _ h => h) (Or.inl ⟨by rfl, ?y22⟩) (by assumption) ?r22
    case y22 => (intro w hSw; (try dsimp only at hSw); go_simp; try with_reducible rfl)
    try simp only [Act.put, List.getElem_toArray, List.getElem_cons_succ, List.getElem_cons_zero, List.setIfInBounds_toArray, List.set_cons_zero, List.set_cons_succ]
    refine' wpAnyH_take (i := 16) (v := ?v23) rfl (by kernel_rfl) (by kernel_rfl) (by kernel_rfl) (fun _ _ _ h => h) (Or.inl ⟨by rfl, ?y23⟩) (by assumption) ?r23
    case y23 => (intro w hSw; (try dsimp only at hSw); go_simp; try with_reducible rfl)
    try simp only [Act.put, List.getElem_toArray, List.getElem_cons_succ, List.getElem_cons_zero, List.setIfInBounds_toArray, List.set_cons_zero, List.set_cons_succ]
    refine' wpAnyH_take (i := 19) (v := ?v24) rfl (by kernel_rfl) (by kernel_rfl) (by kernel_rfl) (fun _ _ _ h => h) (Or.inl ⟨by rfl, ?y24⟩) (by assumption) ?r24
    case y24 => (intro w hSw; (try dsimp only at hSw); go_simp; try with_reducible rfl)
    try simp only [Act.put, List.getElem_toArray, List.getElem_cons_succ, List.getElem_cons_zero, List.setIfInBounds_toArray, List.set_cons_zero, List.set_cons_succ]
    refine' wpAnyH_take (i := 20) (v := ?v25) rfl (by kernel_rfl) (by kernel_rfl) (by kernel_rfl) (fun _ _ _ h => h) (Or.inl ⟨by rfl, ?y25⟩) (by assumption) ?r25
    case y25 => (intro w hSw; (try dsimp only at hSw); go_simp; try with_reducible rfl)
    try simp only [Act.put, List.getElem_toArray, List.getElem_cons_succ, List.getElem_cons_zero, List.setIfInBounds_toArray, List.set_cons_zero, List.set_cons_succ]
    refine wpAnyH_done (by kernel_rfl) ?_ _
    go_wp2
    go_ret
    exact ⟨rfl, HH.out.trans (BB15.out.mono HH.out.size)⟩
  refine AllReadyH.cons rfl (fun K hK => ?_) AllReadyH.nil
  go_simp
  have BB17 : Hid (Below w1.heap.size w1 (w1.alloc (.cells #[.int .u8 ((lowB x.kind).toNat : Int)] 5)).drew) := H00
  have kk18 : (w1.alloc (.cells #[.int .u8 ((lowB x.kind).toNat : Int)] 5)).drew.cell? ⟨w1.heap.size, 0, none⟩ = some (.int .u8 ((lowB x.kind).toNat : Int)) := KN.out w1
  refine hK.out _ _ (by first | with_reducible exact HK.out _ BB17.out | exact HK.out _ BB17.out) (fun hHeld => ?_)
  clear hK K
  try simp only [Act.put, List.getElem_toArray, List.getElem_cons_succ, List.getElem_cons_zero, List.setIfInBounds_toArray, List.set_cons_zero, List.set_cons_succ]
  refine wpAnyH_ready (rs := [5, 15]) (by kernel_rfl) (by simp) ?_
  refine AllReadyH.cons rfl (fun K hK => ?_) ?_
  ·
    go_simp
    refine (NI.out _).mono ?_
    rintro e wz19 ⟨rfl, hb⟩
    have BB20 : Hid (Below w1.heap.size w1 wz19) := Lib.hid (BB17.out.trans (hb.mono BB17.out.size))
    have kk21 : wz19.cell? ⟨w1.heap.size, 0, none⟩ = some (.int .u8 ((lowB x.kind).toNat : Int)) := (hb.cell (p := ⟨w1.heap.size, 0, none⟩) (World.block_lt_of_cell? _ _ kk18)).trans kk18
    clear hb
    go_wp2_with fail
    refine hK.out _ _ (by first | with_reducible exact HK.out _ BB20.out | exact HK.out _ BB20.out) (fun hHeld => ?_)
    clear hK K
    try simp only [Act.put, List.getElem_toArray, List.getElem_cons_succ, List.getElem_cons_zero, List.setIfInBounds_toArray, List.set_cons_zero, List.set_cons_succ]
    refine' wpAnyH_take (i := 6) (v := ?v26) rfl (by kernel_rfl) (by kernel_rfl) (by kernel_rfl) (fun _ _ _ h => h) (Or.inl ⟨by rfl, ?y26⟩) (by assumption) ?r26
    case y26 => (intro w hSw; (try dsimp only at hSw); go_simp; try with_reducible rfl)
    try simp only [Act.put, List.getElem_toArray, List.getElem_cons_succ, List.getElem_cons_zero, List.setIfInBounds_toArray, List.set_cons_zero, List.set_cons_succ]
    refine wpAnyH_ready (rs := [9, 15]) (by kernel_rfl) (by simp) ?_
    refine AllReadyH.cons rfl (fun K hK => ?_) ?_
    ·
      go_simp
      refine (NT.out _).mono ?_
      rintro e wz22 ⟨rfl, hb⟩
      have BB23 : Hid (Below w1.heap.size w1 wz22) := Lib.hid (BB20.out.trans (hb.mono BB20.out.size))
      have kk24 : wz22.cell? ⟨w1.heap.size, 0, none⟩ = some (.int .u8 ((lowB x.kind).toNat : Int)) := (hb.cell (p := ⟨w1.heap.size, 0, none⟩) (World.block_lt_of_cell? _ _ kk21)).trans kk21
      clear hb
      go_wp2_with fail
      refine hK.out _ _ (by first | with_reducible exact HK.out _ BB23.out | exact HK.out _ BB23.out) (fun hHeld => ?_)
      clear hK K
      try simp only [Act.put, List.getElem_toArray, List.getElem_cons_succ, List.getElem_cons_zero, List.setIfInBounds_toArray, List.set_cons_zero, List.set_cons_succ]
      refine' wpAnyH_take (i := 10) (v := ?v27) rfl (by kernel_rfl) (by kernel_rfl) (by kernel_rfl) (fun _ _ _ h => h) (Or.inl ⟨by rfl, ?y27⟩) (by assumption) ?r27
      case y27 => (intro w hSw; (try dsimp only at hSw); go_simp; try with_reducible rfl)
      try simp only [Act.put, List.getElem_toArray, List.getElem_cons_succ, List.getElem_cons_zero, List.setIfInBounds_toArray, List.set_cons_zero, List.set_cons_succ]
      refine wpAnyH_ready (rs := [15]) (by kernel_rfl) (by simp) ?_
      refine AllReadyH.cons rfl (fun K hK => ?_) AllReadyH.nil
      go_simp
      refine hK.out _ _ (by first | with_reducible exact HK.out _ BB23.out | exact HK.out _ BB23.out) (fun hHeld => ?_)
      clear hK K
      try simp only [Act.put, List.getElem_toArray, List.getElem_cons_succ, List.getElem_cons_zero, List.setIfInBounds_toArray, List.set_cons_zero, List.set_cons_succ]
      refine' wpAnyH_take (i := 16) (v := ?v28) rfl (by kernel_rfl) (by kernel_rfl) (by kernel_rfl) (fun _ _ _ h => h) (Or.inl ⟨by rfl, ?y28⟩) (by assumption) ?r28
      case y28 => (intro w hSw; (try dsimp only at hSw); go_simp; try with_reducible rfl)
      try simp only [Act.put, List.getElem_toArray, List.getElem_cons_succ, List.getElem_cons_zero, List.setIfInBounds_toArray, List.set_cons_zero, List.set_cons_succ]
      refine' wpAnyH_take (i := 19) (v := ?v29) rfl (by kernel_rfl) (by kernel_rfl) (by kernel_rfl) (fun _ _ _ h => h) (Or.inl ⟨by rfl, ?y29⟩) (by assumption) ?r29
      case y29 => (intro w hSw; (try dsimp only at hSw); go_simp; try with_reducible rfl)
      try simp only [Act.put, List.getElem_toArray, List.getElem_cons_succ, List.getElem_cons_zero, List.setIfInBounds_toArray, List.set_cons_zero, List.set_cons_succ]
      refine' wpAnyH_take (i := 20) (v := ?v30) rfl (by kernel_rfl) (by kernel_rfl) (by kernel_rfl) (fun _ _ _ h => h) (Or.inl ⟨by rfl, ?y30⟩) (by assumption) ?r30
      case y30 => (intro w hSw; (try dsimp only at hSw); go_simp; try with_reducible rfl)
      try simp only [Act.put, List.getElem_toArray, List.getElem_cons_succ, List.getElem_cons_zero, List.setIfInBounds_toArray, List.set_cons_zero, List.set_cons_succ]
      refine wpAnyH_done (by kernel_rfl) ?_ _
      go_wp2
      go_ret
      exact ⟨rfl, HH.out.trans (BB23.out.mono HH.out.size)⟩
    refine AllReadyH.cons rfl (fun K hK => ?_) AllReadyH.nil
    go_simp
    refine hK.out _ _ (by first | with_reducible exact HK.out _ BB20.out | exact HK.out _ BB20.out) (fun hHeld => ?_)
    clear hK K
    try simp only [Act.put, List.getElem_toArray, List.getElem_cons_succ, List.getElem_cons_zero, List.setIfInBounds_toArray, List.set_cons_zero, List.set_cons_succ]
    refine wpAnyH_ready (rs := [9]) (by kernel_rfl) (by simp) ?_
    refine AllReadyH.cons rfl (fun K hK => ?_) AllReadyH.nil
    go_simp
    refine (NT.out _).mono ?_
    rintro e wz25 ⟨rfl, hb⟩
    have BB26 : Hid (Below w1.heap.size w1 wz25) := Lib.hid (BB20.out.trans (hb.mono BB20.out.size))
    have kk27 : wz25.cell? ⟨w1.heap.size, 0, none⟩ = some (.int .u8 ((lowB x.kind).toNat : Int)) := (hb.cell (p := ⟨w1.heap.size, 0, none⟩) (World.block_lt_of_cell? _ _ kk21)).trans kk21
    clear hb
    go_wp2_with fail
    refine hK.out _ _ (by first | with_reducible exact HK.out _ BB26.out | exact HK.out _ BB26.out) (fun hHeld => ?_)
    clear hK K
    try simp only [Act.put, List.getElem_toArray, List.getElem_cons_succ, List.getElem_cons_zero, List.setIfInBounds_toArray, List.set_cons_zero, List.set_cons_succ]
    refine' wpAnyH_take (i := 10) (v := ?v31) rfl (by kernel_rfl) (by kernel_rfl) (by kernel_rfl) (fun _ _ _ h => h) (Or.inl ⟨by rfl, ?y31⟩) (by assumption) ?r31
    case y31 => (intro w hSw; (try dsimp only at hSw); go_simp; try with_reducible rfl)
    try simp only [Act.put, List.getElem_toArray, List.getElem_cons_succ, List.getElem_cons_zero, List.setIfInBounds_toArray, List.set_cons_zero, List.set_cons_succ]
    refine' wpAnyH_take (i := 16) (v := ?v32) rfl (by kernel_rfl) (by kernel_rfl) (by kernel_rfl) (fun _ _ _ h => h) (Or.inl ⟨by rfl, ?y32⟩) (by assumption) ?r32
    case y32 => (intro w hSw; (try dsimp only at hSw); go_simp; try with_reducible rfl)
    try simp only [Act.put, List.getElem_toArray, List.getElem_cons_succ, List.getElem_cons_zero, List.setIfInBounds_toArray, List.set_cons_zero, List.set_cons_succ]
    refine' wpAnyH_take (i := 19) (v := ?v33) rfl (by kernel_rfl) (by kernel_rfl) (by kernel_rfl) (fun _ _ _ h => h) (Or.inl ⟨by rfl, ?y33⟩) (by assumption) ?r33
    case y33 => (intro w hSw; (try dsimp only at hSw); go_simp; try with_reducible rfl)
    try simp only [Act.put, List.getElem_toArray, List.getElem_cons_succ, List.getElem_cons_zero, List.setIfInBounds_toArray, List.set_cons_zero, List.set_cons_succ]
    refine' wpAnyH_take (i := 20) (v := ?v34) rfl (by kernel_rfl) (by kernel_rfl) (by kernel_rfl) (fun _ _ _ h => h) (Or.inl ⟨by rfl, ?y34⟩) (by assumption) ?r34
    case y34 => (intro w hSw; (try dsimp only at hSw); go_simp; try with_reducible rfl)
    try simp only [Act.put, List.getElem_toArray, List.getElem_cons_succ, List.getElem_cons_zero, List.setIfInBounds_toArray, List.set_cons_zero, List.set_cons_succ]
    refine wpAnyH_done (by kernel_rfl) ?_ _
    go_wp2
    go_ret
    exact ⟨rfl, HH.out.trans (BB26.out.mono HH.out.size)⟩
  refine AllReadyH.cons rfl (fun K hK => ?_) AllReadyH.nil
  go_simp
  refine hK.out _ _ (by first | with_reducible exact HK.out _ BB17.out | exact HK.out _ BB17.out) (fun hHeld => ?_)
  clear hK K
  try simp only [Act.put, List.getElem_toArray, List.getElem_cons_succ, List.getElem_cons_zero, List.setIfInBounds_toArray, List.set_cons_zero, List.set_cons_succ]
  refine wpAnyH_ready (rs := [5]) (by kernel_rfl) (by simp) ?_
  refine AllReadyH.cons rfl (fun K hK => ?_) AllReadyH.nil
  go_simp
  refine (NI.out _).mono ?_
  rintro e wz28 ⟨rfl, hb⟩
  have BB29 : Hid (Below w1.heap.size w1 wz28) := Lib.hid (BB17.out.trans (hb.mono BB17.out.size))
  have kk30 : wz28.cell? ⟨w1.heap.size, 0, none⟩ = some (.int .u8 ((lowB x.kind).toNat : Int)) := (hb.cell (p := ⟨w1.heap.size, 0, none⟩) (World.block_lt_of_cell? _ _ kk18)).trans kk18
  clear hb
  go_wp2_with fail
  refine hK.out _ _ (by first | with_reducible exact HK.out _ BB29.out | exact HK.out _ BB29.out) (fun hHeld => ?_)
  clear hK K
  try simp only [Act.put, List.getElem_toArray, List.getElem_cons_succ, List.getElem_cons_zero, List.setIfInBounds_toArray, List.set_cons_zero, List.set_cons_succ]
  refine' wpAnyH_take (i := 6) (v := ?v35) rfl (by kernel_rfl) (by kernel_rfl) (by kernel_rfl) (fun _ _ _ h => h) (Or.inl ⟨by rfl, ?y35⟩) (by assumption) ?r35
  case y35 => (intro w hSw; (try dsimp only at hSw); go_simp; try with_reducible rfl)
  try simp only [Act.put, List.getElem_toArray, List.getElem_cons_succ, List.getElem_cons_zero, List.setIfInBounds_toArray, List.set_cons_zero, List.set_cons_succ]
  refine wpAnyH_ready (rs := [9]) (by kernel_rfl) (by simp) ?_
  refine AllReadyH.cons rfl (fun K hK => ?_) AllReadyH.nil
  go_simp
  refine (NT.out _).mono ?_
  rintro e wz31 ⟨rfl, hb⟩
  have BB32 : Hid (Below w1.heap.size w1 wz31) := Lib.hid (BB29.out.trans (hb.mono BB29.out.size))
  have kk33 : wz31.cell? ⟨w1.heap.size, 0, none⟩ = some (.int .u8 ((lowB x.kind).toNat : Int)) := (hb.cell (p := ⟨w1.heap.size, 0, none⟩) (World.block_lt_of_cell? _ _ kk30)).trans kk30
  clear hb
  go_wp2_with fail
  refine hK.out _ _ (by first | with_reducible exact HK.out _ BB32.out | exact HK.out _ BB32.out) (fun hHeld => ?_)
  clear hK K
  try simp only [Act.put, List.getElem_toArray, List.getElem_cons_succ, List.getElem_cons_zero, List.setIfInBounds_toArray, List.set_cons_zero, List.set_cons_succ]
  refine' wpAnyH_take (i := 10) (v := ?v36) rfl (by kernel_rfl) (by kernel_rfl) (by kernel_rfl) (fun _ _ _ h => h) (Or.inl ⟨by rfl, ?y36⟩) (by assumption) ?r36
  case y36 => (intro w hSw; (try dsimp only at hSw); go_simp; try with_reducible rfl)
  try simp only [Act.put, List.getElem_toArray, List.getElem_cons_succ, List.getElem_cons_zero, List.setIfInBounds_toArray, List.set_cons_zero, List.set_cons_succ]
  refine' wpAnyH_take (i := 16) (v := ?v37) rfl (by kernel_rfl) (by kernel_rfl) (by kernel_rfl) (fun _ _ _ h => h) (Or.inl ⟨by rfl, ?y37⟩) (by assumption) ?r37
  case y37 => (intro w hSw; (try dsimp only at hSw); go_simp; try with_reducible rfl)
  try simp only [Act.put, List.getElem_toArray, List.getElem_cons_succ, List.getElem_cons_zero, List.setIfInBounds_toArray, List.set_cons_zero, List.set_cons_succ]
  refine' wpAnyH_take (i := 19) (v := ?v38) rfl (by kernel_rfl) (by kernel_rfl) (by kernel_rfl) (fun _ _ _ h => h) (Or.inl ⟨by rfl, ?y38⟩) (by assumption) ?r38
  case y38 => (intro w hSw; (try dsimp only at hSw); go_simp; try with_reducible rfl)
  try simp only [Act.put, List.getElem_toArray, List.getElem_cons_succ, List.getElem_cons_zero, List.setIfInBounds_toArray, List.set_cons_zero, List.set_cons_succ]
  refine' wpAnyH_take (i := 20) (v := ?v39) rfl (by kernel_rfl) (by kernel_rfl) (by kernel_rfl) (fun _ _ _ h => h) (Or.inl ⟨by rfl, ?y39⟩) (by assumption) ?r39
  case y39 => (intro w hSw; (try dsimp only at hSw); go_simp; try with_reducible rfl)
  try simp only [Act.put, List.getElem_toArray, List.getElem_cons_succ, List.getElem_cons_zero, List.setIfInBounds_toArray, List.set_cons_zero, List.set_cons_succ]
  refine wpAnyH_done (by kernel_rfl) ?_ _
  go_wp2
  go_ret
  exact ⟨rfl, HH.out.trans (BB32.out.mono HH.out.size)⟩
end Go.Proofs.Ytopnmiakljpgbaa
