/-
  The first node from a key on that a function chooses.
-/
import Derived.Test.YtomghpielgkigaaDoorNodesIt
import Derived.Test.YtomghpielgkigaaDoorSum
namespace Go.Proofs.YtomghpielgkigaaDoor
open Go.RowKit Go.Shelf
attribute [local go_sem] Oper.semAt_some
/-- The two tables hold their numbers. -/
structure Tab (w : World) : Prop where
  init : InitIn w
  keys : KeysIn w
theorem Tab.below {w w' : World} (h : Tab w) (hb : Below w.heap.size w w') : Tab w' := ⟨h.init.below hb h.keys.pos, h.keys.below hb h.keys.pos⟩
/-- The place of a text. -/
def pk (s : ByteArray) : Int := pntI s.data.toList
theorem pt_any {w : World} {b : Nat} {s : ByteArray} (hT : Tab w) (hb : Ce w b 9 #[.string s]) (hs : s.size ≤ 140737488355328) :
    Calls Tryd.prog 24 #[.slice (some ⟨b, 0, none⟩) 1 1] w fun e w' => e = .returned (.int .u64 (pk s)) ∧ Below w.heap.size w w' := by
  have hl : s.data.toList.length ≤ 140737488355328 := by
    have : s.data.toList.length = s.size := by show _ = s.data.size; simp
    omega
  refine point_any _ s.data.toList w ?_
  exact sum_some s.data.toList [s.data.toList] (by simp) hl b 1 1 rfl w hT.init hT.keys hb.lt (fun k hk => by
    have hk0 : k = 0 := by simpa using hk
    subst hk0
    exact hb.cell 0) (by decide)
set_option maxRecDepth 100000 in
set_option maxHeartbeats 1600000 in
theorem nodesFrom_any (w : World) (v : Option Addr) (h : Int) : Calls Tryd.prog 23 #[.pointer v, .int .u64 h] w fun e w' => ∃ B1 B2, e = .returned (.func (.func 33) #[] #[ptr B1, ptr B2]) ∧ w.heap.size ≤ B1 ∧ w.heap.size ≤ B2 ∧ Boxed w' B1 26 (.pointer v) ∧ Boxed w' B2 42 (.int .u64 h) ∧ Below w.heap.size w w' := by
  obtain ⟨k1, k2, ks, kb⟩ := two_new w #[.pointer v] #[.int .u64 h] 26 42
  have HK1 := Lib.hid k1
  have HK2 := Lib.hid k2
  have HKB := Lib.hid kb
  clear k1 k2 ks kb
  go_enter Tryd.func23, Tryd.ntmps23
  go_wp2
  go_ret
  exact ⟨_, _, rfl, Nat.le_refl _, Nat.le_succ _, HK1.out, HK2.out, HKB.out⟩
theorem RingAt.ptr {Z : Nat → Prop} {w : World} {v : Value} {L : List Pt} (h : RingAt Z w v L) : ∃ p, v = .pointer p := by
  rcases h with ⟨rfl, _⟩ | ⟨b, _, rfl, _⟩
  · exact ⟨_, rfl⟩
  · exact ⟨_, rfl⟩
theorem four_new (w : World) (c1 c2 c3 c4 : Array Value) (t1 t2 t3 t4 : TypeId) :
    let w' := (((w.alloc (.cells c1 t1)).alloc (.cells c2 t2)).alloc (.cells c3 t3)).alloc (.cells c4 t4)
    Ce w' w.heap.size t1 c1 ∧ Ce w' (w.heap.size + 1) t2 c2 ∧ Ce w' (w.heap.size + 1 + 1) t3 c3 ∧ Ce w' (w.heap.size + 1 + 1 + 1) t4 c4 ∧ w'.heap.size = w.heap.size + 4 ∧ Below w.heap.size w w' := by
  intro w'
  obtain ⟨a1, a2, a3, ab⟩ := two_new w c1 c2 t1 t2
  obtain ⟨b1, b2, bs, bb⟩ := two_new ((w.alloc (.cells c1 t1)).alloc (.cells c2 t2)) c3 c4 t3 t4
  rw [a3] at b1 b2 bs bb
  refine ⟨a1.below (by rw [a3]; exact bb), a2.below (by rw [a3]; exact bb), b1, b2, bs, ab.trans (bb.mono (by omega))⟩
theorem results_two {fn : Func} {p u : Tmp} (h : fn.results = #[.cell p 3, .cell u 4]) {tmps : Array Value} {w : World} {b1 b2 : Nat} {n : Int} {x : Bool} (h1 : tmps.getD p undef = ptr b1) (h2 : tmps.getD u undef = ptr b2)
    (k1 : Ce w b1 3 #[it n]) (k2 : Ce w b2 4 #[.bool x]) : (results fn tmps).run Tryd.prog w = .ok (.tuple #[it n, .bool x]) w := by
  have c1 : w.cell? ⟨b1, 0, none⟩ = some (it n) := k1.cell 0
  have c2 : w.cell? ⟨b2, 0, none⟩ = some (.bool x) := k2.cell 0
  have e1 : tmps[p]?.getD undef = ptr b1 := by rw [← h1]; simp
  have e2 : tmps[u]?.getD undef = ptr b2 := by rw [← h2]; simp
  simp only [results, h]
  simp [Sem.run_bind, Result.andThen, e1, e2, go_sem, c1, c2]
/-- A node that may be none, as a number. -/
def fstN (o : Option (Fin 64)) : Int := (o.map fun x => (x.val : Int)).getD (-1)
set_option maxRecDepth 100000 in
set_option maxHeartbeats 3200000 in
theorem first_any {w : World} {v : Value} {L : List Pt} (hT : Tab w) (h : RingAt Z0 w v L) (hS : Srt L) (hL : L.length ≤ 1024) (s : ByteArray) (hs : s.size ≤ 140737488355328) (g : Nat) (cb : Array Value) (p : Fin 64 → Bool)
    (hp : ∀ (x : Fin 64) W, Below w.heap.size w W → Calls Tryd.prog g (#[encN x] ++ cb) W fun e W' => e = .returned (.bool (p x)) ∧ Below W.heap.size W W') (eg : ∀ args w, (callFunc g args).run Tryd.prog w = .ok (.enter g args) w) :
    Calls Tryd.prog 21 #[v, .string s, .func (.func g) #[] cb] w fun e w' => e = .returned (.tuple #[it (fstN ((nds (pk s) L).find? p)), .bool ((nds (pk s) L).find? p).isSome]) ∧ Below w.heap.size w w' := by
  refine (callsIn_wide (n := 9)).1 ?_
  obtain ⟨rn, hrn⟩ : ∃ rn, rn = fstN ((nds (pk s) L).find? p) := ⟨_, rfl⟩
  obtain ⟨rb, hrb⟩ : ∃ rb, rb = ((nds (pk s) L).find? p).isSome := ⟨_, rfl⟩
  rw [← hrn, ← hrb]
  have HRN := Lib.hid hrn
  have HRB := Lib.hid hrb
  have HT := Lib.hid hT
  have HR := Lib.hid h
  have HS := Lib.hid hS
  have HL := Lib.hid hL
  have HP := Lib.hid hp
  have HE := Lib.hid eg
  obtain ⟨p0, rfl⟩ := h.ptr
  clear hT h hS hL hp eg hrn hrb
  refine callsIn_of_wp_marks Tryd.func21 rfl trivial ?_ rfl
  simp only [Tryd.ntmps21, List.size_toArray, List.length_cons, List.length_nil, Nat.reduceAdd, Nat.reduceSub, Array.replicate_succ, Array.replicate_zero, List.push_toArray, List.append_toArray, List.nil_append, List.cons_append]
  gi_wp2_with fail
  obtain ⟨k1, k2, k3, k4, ks, kb⟩ := four_new w #[.func (.func g) #[] cb] #[.int .i64 0] #[.bool false] #[.string s] 54 3 4 9
  generalize (((w.alloc (.cells #[.func (.func g) #[] cb] 54)).alloc (.cells #[.int .i64 0] 3)).alloc (.cells #[.bool false] 4)).alloc (.cells #[.string s] 9) = w1 at *
  refine ⟨trivial, (callsIn_wide.2 (pt_any (HT.out.below kb) k4 hs)).mono ?_⟩
  rintro e w2 ⟨rfl, hb2⟩
  have hsz2 := hb2.size
  gi_wp2_with fail
  refine ⟨trivial, (callsIn_wide.2 (nodesFrom_any w2 p0 (pk s))).mono ?_⟩
  rintro e w3 ⟨B1, B2, rfl, g1, g2, x1, x2, hb3⟩
  have hsz3 := hb3.size
  gi_wp2_with fail
  obtain ⟨Y, hY⟩ : ∃ Y, Y = w.heap.size := ⟨_, rfl⟩
  have HYY := Lib.hid hY
  have k1' := (k1.below hb2).below hb3
  have k2' := (k2.below hb2).below hb3
  have k3' := (k3.below hb2).below hb3
  have hbw := (kb.trans (hb2.mono (by omega))).trans (hb3.mono (by omega))
  rw [← hY] at k1' k2' k3' ks
  have K1 := Lib.hid k1'
  have K2 := Lib.hid k2'
  have K3 := Lib.hid k3'
  have HBW := Lib.hid hbw
  have X1 := Lib.hid x1
  have X2 := Lib.hid x2
  have hw3 : Y + 4 ≤ w3.heap.size := by omega
  have hB1 : Y + 4 ≤ B1 := by omega
  have hB2 : Y + 4 ≤ B2 := by omega
  clear hY k1 k2 k3 k4 ks kb hb2 hb3 k1' k2' k3' hbw x1 x2 g1 g2 hsz2 hsz3
  have sh : Fr w3.heap.size (fun (pre : List (Fin 64)) A W => (∀ k, A k ↔ k = Y + 1 ∨ k = Y + 1 + 1) ∧ Ce W Y 54 #[.func (.func g) #[] cb] ∧ Ce W (Y + 1) 3 #[.int .i64 0] ∧ Ce W (Y + 1 + 1) 4 #[.bool false] ∧ Below w.heap.size w W ∧ w3.heap.size ≤ W.heap.size ∧ ∀ x ∈ pre, p x = false) := by
    rintro pre A W C ⟨h1, h2, h3, h4, h5, h6, h7⟩ ht
    exact ⟨h1, h2.tr ht (by omega), h3.tr ht (by omega), h4.tr ht (by omega), h5.trans (ht.below (by have := HYY.out; omega) fun k hk => by have := HYY.out; omega), Nat.le_trans h6 ht.size, h7⟩
  have shx : ∀ c : Code, Fr w3.heap.size (fun (pre : List (Fin 64)) A W => (∀ k, A k ↔ k = Y + 1 ∨ k = Y + 1 + 1) ∧ c = .ret ∧ ∃ pre0 x, pre = pre0 ++ [x] ∧ (∀ y ∈ pre0, p y = false) ∧ p x = true ∧ Ce W (Y + 1) 3 #[encN x] ∧ Ce W (Y + 1 + 1) 4 #[.bool true] ∧ Below w.heap.size w W ∧ w3.heap.size ≤ W.heap.size) := by
    rintro c pre A W C ⟨h1, h0, pre0, x, e, h2, h3, h4, h5, h6, h7⟩ ht
    exact ⟨h1, h0, pre0, x, e, h2, h3, h4.tr ht (by omega), h5.tr ht (by omega), h6.trans (ht.below (by have := HYY.out; omega) fun k hk => by have := HYY.out; omega), Nat.le_trans h7 ht.size⟩
  have SH := Lib.hid sh
  have SHX := Lib.hid shx
  have HR3 := Lib.hid (HR.out.below HBW.out (Z' := fun k => k = Y + 1 ∨ k = Y + 1 + 1) (fun k hk _ => by have := HYY.out; omega))
  clear sh shx
  refine range_gives (by omega) (gf := 33) (cb := #[ptr B1, ptr B2]) rfl (enters_of Tryd.func33 (by kernel_rfl) rfl) rfl
    (nodes_gives 8 (by omega) (fun k => k = Y + 1 ∨ k = Y + 1 + 1) w3 B1 B2 (.pointer p0) (pk s) L X1.out X2.out (by omega) (by omega) HR3.out HS.out HL.out)
    _ (fun c (pre : List (Fin 64)) A W => (∀ k, A k ↔ k = Y + 1 ∨ k = Y + 1 + 1) ∧ c = .ret ∧ ∃ pre0 x, pre = pre0 ++ [x] ∧ (∀ y ∈ pre0, p y = false) ∧ p x = true ∧ Ce W (Y + 1) 3 #[encN x] ∧ Ce W (Y + 1 + 1) 4 #[.bool true] ∧ Below w.heap.size w W ∧ w3.heap.size ≤ W.heap.size) SH.out SHX.out ?l1 ?l2
    (fun k => k = Y + 1 ∨ k = Y + 1 + 1) ⟨fun _ => Iff.rfl, K1.out, K2.out, K3.out, HBW.out, Nat.le_refl _, fun _ h => by cases h⟩ (Nat.le_refl _) (fun k _ hz => ⟨hz, rfl⟩)
    (fun x a' m W' => a' = { tmps := #[.pointer p0, .string s, .func (.func g) #[] cb, undef, undef, ptr Y, ptr (Y + 1), ptr (Y + 1 + 1), encN x, .pointer p0, .string s, .slice (some ⟨Y + 1 + 1 + 1, 0, none⟩) 1 1, .int .u64 (pk s), .func (.func 33) #[] #[ptr B1, ptr B2], encN x, undef, undef, undef, undef], defers := [] })
    ?hax ?assign ?body ?done ?stop
  case l1 =>
    rintro pre A W ⟨h1, h2, h3, h4, h5, h6, h7⟩ k hk
    rcases (h1 k).1 hk with rfl | rfl
    · exact h3.lt
    · exact h4.lt
  case l2 =>
    rintro c pre A W ⟨h1, h0, pre0, x, e, h2, h3, h4, h5, h6, h7⟩ k hk
    rcases (h1 k).1 hk with rfl | rfl
    · exact h4.lt
    · exact h5.lt
  case hax =>
    rintro x a' m W' C h ht
    exact h
  case assign =>
    intro l' x W' K' hK'
    gi_wp2
    exact hK' _ _ (Below.refl _ _) (by rw [HYY.out])
  case body =>
    rintro l' pre x A m a' W hpre ⟨h1, h2, h3, h4, h5, h6, h7⟩ hlt hm rfl
    have cY := h2.cell 0
    simp at cY
    have hch := HP.out x W h5
    have HCH := Lib.hid hch
    have H1 := Lib.hid h1
    have H2 := Lib.hid h2
    have H3 := Lib.hid h3
    have H4 := Lib.hid h4
    have H5 := Lib.hid h5
    have H7 := Lib.hid h7
    have he := HE.out
    have HPX := Lib.hid (rfl : p x = p x)
    obtain ⟨px, hpx⟩ : ∃ px, px = p x := ⟨_, rfl⟩
    rw [← hpx] at HCH
    clear hch h1 h2 h3 h4 h5 h7 HPX hpre
    have HPX := Lib.hid hpx
    clear hpx
    gi_wp2_with fail
    refine ⟨trivial, (CallsIn.inRound l' (callsIn_wide.2 HCH.out)).mono ?_⟩
    rintro e W2 ⟨rfl, hb2⟩
    have t2 : Tr (fun _ => False) W W2 := Tr.of_below hb2
    have k1 := H2.out.below hb2
    have k2 := H3.out.below hb2
    have k3 := H4.out.below hb2
    have hbw := H5.out.trans (hb2.mono H5.out.size)
    have hs2 := hb2.size
    cases px with
    | false =>
      have HFIN := Lib.hid (show ∃ A', ((∀ k, A' k ↔ k = Y + 1 ∨ k = Y + 1 + 1) ∧ Ce W2 Y 54 #[.func (.func g) #[] cb] ∧ Ce W2 (Y + 1) 3 #[.int .i64 0] ∧ Ce W2 (Y + 1 + 1) 4 #[.bool false] ∧ Below w.heap.size w W2 ∧ w3.heap.size ≤ W2.heap.size ∧ ∀ y ∈ pre ++ [x], p y = false) ∧ Move A W A' W2 from ⟨A, ⟨H1.out, k1, k2, k3, hbw, Nat.le_trans h6 hs2, fun y hy => by
        rcases List.mem_append.1 hy with h | h
        · exact H7.out y h
        · rw [List.mem_singleton.1 h]; exact HPX.out.symm⟩, ⟨t2.mono fun _ h => h.elim, fun _ h => .inl h⟩⟩)
      clear hb2 t2 k1 k2 k3 hbw hs2 cY he
      gi_wp2
      exact HFIN.out
    | true =>
      have f2 := k2.frozen 0
      have f3 := k3.frozen 0
      have c2 := k2.cell 0
      have c3 := k3.cell 0
      simp at c2 c3
      have q2 : Ce ((W2.setCell ⟨Y + 1, 0, none⟩ (encN x)).setCell ⟨Y + 1 + 1, 0, none⟩ (.bool true)) (Y + 1) 3 #[encN x] := (k2.set (i := 0) (encN x)).other (by omega) _
      have q3 : Ce ((W2.setCell ⟨Y + 1, 0, none⟩ (encN x)).setCell ⟨Y + 1 + 1, 0, none⟩ (.bool true)) (Y + 1 + 1) 4 #[.bool true] := (k3.other (B' := Y + 1) (i := 0) (by omega) (encN x)).set (i := 0) (.bool true)
      have q4 : Tr (fun k => k = Y + 1 ∨ k = Y + 1 + 1) W2 ((W2.setCell ⟨Y + 1, 0, none⟩ (encN x)).setCell ⟨Y + 1 + 1, 0, none⟩ (.bool true)) := ((Tr.refl _ _).setCell (.inl (.inl rfl)) _).setCell (.inl (.inr rfl)) _
      have HFIN := Lib.hid (show ∃ A', ((∀ k, A' k ↔ k = Y + 1 ∨ k = Y + 1 + 1) ∧ ∃ pre0 x', pre ++ [x] = pre0 ++ [x'] ∧ (∀ y ∈ pre0, p y = false) ∧ p x' = true ∧ Ce ((W2.setCell ⟨Y + 1, 0, none⟩ (encN x)).setCell ⟨Y + 1 + 1, 0, none⟩ (.bool true)) (Y + 1) 3 #[encN x'] ∧ Ce ((W2.setCell ⟨Y + 1, 0, none⟩ (encN x)).setCell ⟨Y + 1 + 1, 0, none⟩ (.bool true)) (Y + 1 + 1) 4 #[.bool true] ∧ Below w.heap.size w ((W2.setCell ⟨Y + 1, 0, none⟩ (encN x)).setCell ⟨Y + 1 + 1, 0, none⟩ (.bool true)) ∧ w3.heap.size ≤ ((W2.setCell ⟨Y + 1, 0, none⟩ (encN x)).setCell ⟨Y + 1 + 1, 0, none⟩ (.bool true)).heap.size) ∧ Move A W A' ((W2.setCell ⟨Y + 1, 0, none⟩ (encN x)).setCell ⟨Y + 1 + 1, 0, none⟩ (.bool true)) from
        ⟨A, ⟨H1.out, pre, x, rfl, H7.out, HPX.out.symm, q2, q3, hbw.trans (q4.below (by have := hbw.size; omega) fun k hk => by have := HYY.out; omega), by have := q4.size; omega⟩, ⟨(t2.mono fun _ h => h.elim).trans q4 fun k hk => .inl ((H1.out k).2 hk), fun _ h => .inl h⟩⟩)
      clear hb2 t2 k1 k2 k3 hbw hs2 cY he q2 q3 q4
      gi_wp2
      obtain ⟨A', ⟨r1, pre0, x', r2, r3, r4, r5, r6, r7, r8⟩, r9⟩ := HFIN.out
      exact ⟨A', ⟨r1, rfl, pre0, x', r2, r3, r4, r5, r6, r7, r8⟩, r9⟩
  case done =>
    rintro D A W ⟨h1, h2, h3, h4, h5, h6, h7⟩ hAD hD hle
    have e0 := HYY.out
    subst e0
    have HD := Lib.hid hD
    have H3 := Lib.hid h3
    have H4 := Lib.hid h4
    have H5 := Lib.hid h5
    have H7 := Lib.hid h7
    have f3 := h3.frozen 0
    have f4 := h4.frozen 0
    have c3 := h3.cell 0
    have c4 := h4.cell 0
    simp at c3 c4
    clear h1 h2 h3 h4 h5 h7 hAD hD
    have q3 : Ce ((W.setCell ⟨w.heap.size + 1, 0, none⟩ (it (-1))).setCell ⟨w.heap.size + 1 + 1, 0, none⟩ (.bool false)) (w.heap.size + 1) 3 #[it (-1)] := (H3.out.set (i := 0) (it (-1))).other (by omega) _
    have q4 : Ce ((W.setCell ⟨w.heap.size + 1, 0, none⟩ (it (-1))).setCell ⟨w.heap.size + 1 + 1, 0, none⟩ (.bool false)) (w.heap.size + 1 + 1) 4 #[.bool false] := (H4.out.other (B' := w.heap.size + 1) (i := 0) (by omega) (it (-1))).set (i := 0) (.bool false)
    have q5 : Tr (fun k => k = w.heap.size + 1 ∨ k = w.heap.size + 1 + 1) W ((W.setCell ⟨w.heap.size + 1, 0, none⟩ (it (-1))).setCell ⟨w.heap.size + 1 + 1, 0, none⟩ (.bool false)) := ((Tr.refl _ _).setCell (.inl (.inl rfl)) _).setCell (.inl (.inr rfl)) _
    have Q3 := Lib.hid q3
    have Q4 := Lib.hid q4
    have Q5 := Lib.hid q5
    clear q3 q4 q5
    gi_wp2
    generalize (W.setCell ⟨w.heap.size + 1, 0, none⟩ (.int .i64 (-1))).setCell ⟨w.heap.size + 1 + 1, 0, none⟩ (.bool false) = wE at *
    have hDE : wE.heap[D]? = some (.deferred (some [])) := (Q5.out.block D (Array.getElem?_eq_some_iff.1 HD.out).1 (by omega)).trans HD.out
    have tE := put_tr wE D (.deferred none)
    have hnone : (nds (pk s) L).find? p = none := List.find?_eq_none.2 fun y hy => by rw [H7.out y hy]; decide
    refine ⟨by simp, .inl ⟨_, _, rfl, run_takeDeferred hDE, ?_⟩⟩
    refine ⟨_, results_two rfl rfl rfl (Q3.out.tr tE (by omega)) (Q4.out.tr tE (by omega)), by rw [HRN.out, HRB.out, hnone]; rfl, ?_⟩
    exact (H5.out.trans (Q5.out.below (by have := H5.out.size; omega) fun k hk => by omega)).trans (tE.below (by have := H5.out.size; have := Q5.out.size; omega) fun k hk => by omega)
  case stop =>
    rintro D c pre A W hpre ⟨h1, rfl, pre0, x, rfl, h2, h3, h4, h5, h6, h7⟩ hAD hD hle
    have e0 := HYY.out
    subst e0
    have HD := Lib.hid hD
    have H4 := Lib.hid h4
    have H5 := Lib.hid h5
    have H6 := Lib.hid h6
    have hsome : (nds (pk s) L).find? p = some x := by
      obtain ⟨t, ht⟩ := hpre
      rw [← ht, List.append_assoc, List.find?_append, List.find?_eq_none.2 (fun y hy => by rw [h2 y hy]; decide)]
      show (x :: t).find? p = some x
      rw [List.find?_cons, h3]
    have HSOME := Lib.hid hsome
    clear h1 h2 h3 h4 h5 h6 hAD hD hsome hpre
    gi_wp2
    have tE := put_tr W D (.deferred none)
    refine ⟨by simp, .inl ⟨_, _, rfl, run_takeDeferred HD.out, ?_⟩⟩
    refine ⟨_, results_two rfl rfl rfl (H4.out.tr tE (by omega)) (H5.out.tr tE (by omega)), by rw [HRN.out, HRB.out, HSOME.out]; rfl, ?_⟩
    exact H6.out.trans (tE.below (by have := H6.out.size; omega) fun k hk => by omega)
end Go.Proofs.YtomghpielgkigaaDoor
