/-
  An order as bytes, as far as the examples ask; a flush that is applied.
-/
import Derived.Test.YtjoplnkagfkffaaApply
namespace Go.Proofs.Ytjoplnkagfkffaa
open Go.RowKit
set_option maxRecDepth 100000 in
set_option maxHeartbeats 3200000 in
theorem small_any (n : Nat) (hn : n < 256) (w : World) : Calls Try.prog 23 #[it (n : Int)] w fun e w' => e = .returned (str [UInt8.ofNat n]) ∧ Below w.heap.size w w' := by
  have q1 : IntKind.u8.wrap (n : Int) = (n : Int) := by unfold IntKind.wrap; simp only [IntKind.bits, IntKind.signed]; simp; omega
  have hb := one_new w (.cells #[.int .u8 (n : Int)] 5)
  have hn8 : ((UInt8.ofNat n).toNat : Int) = (n : Int) := by rw [UInt8.toNat_ofNat']; omega
  have hconv : (convert 72 9 (.slice (some ⟨w.heap.size, 0, none⟩) 1 1)).run Try.prog (w.alloc (.cells #[.int .u8 (n : Int)] 5)) = .ok (str [UInt8.ofNat n]) (w.alloc (.cells #[.int .u8 (n : Int)] 5)) := by
    refine run_convert_bytes_back (P := Try.prog) (w.alloc (.cells #[.int .u8 (n : Int)] 5)) 72 9 5 ⟨w.heap.size, 0, none⟩ 1 [UInt8.ofNat n] Try.underlying72 Try.underlying5 Try.underlying9 (fun j hj => ?_)
    have : j = 0 := by simp at hj; omega
    subst this
    rw [add_any, (Ce.new w 5 #[.int .u8 (n : Int)]).cell]
    simp; omega
  have HB := Lib.hid hb
  clear hb hn8
  go_enter Try.func23, Try.ntmps23
  go_wp2
  go_ret
  exact ⟨rfl, HB.out⟩
set_option maxRecDepth 100000 in
set_option maxHeartbeats 3200000 in
theorem join_one {w : World} {g o cap : Nat} {s : ByteArray} (hc : w.cell? ⟨g, o, none⟩ = some (.string s)) : Calls Try.prog 37 #[.slice (some ⟨g, o, none⟩) 1 cap, .string ⟨#[]⟩] w fun e w' => e = .returned (.string s) ∧ w = w' := by
  go_enter Try.func37, Try.ntmps37
  go_wp2
  go_ret
  exact ⟨rfl, rfl⟩
set_option maxRecDepth 100000 in
set_option maxHeartbeats 3200000 in
theorem together_one {w : World} {g o cap n : Nat} {s : ByteArray} (hn : n < 256) (hs : s.size ≤ 1000000) (hc : w.cell? ⟨g, o, none⟩ = some (.string s)) : Calls Try.prog 22 #[it (n : Int), .slice (some ⟨g, o, none⟩) 1 cap] w fun e w' => e = .returned (.string (⟨#[UInt8.ofNat n]⟩ ++ s)) ∧ Below w.heap.size w w' := by
  have HS := Lib.hid (small_any n hn w)
  have HC := Lib.hid hc
  clear hc
  go_enter Try.func22, Try.ntmps22
  go_wp2_with fail
  refine HS.out.mono ?_
  rintro e w2 ⟨rfl, hb⟩
  have hc := (hb.cell (p := ⟨g, o, none⟩) (w.block_lt_of_cell? _ HC.out)).trans HC.out
  have HJ := Lib.hid (join_one (cap := cap) hc)
  have HB := Lib.hid hb
  have q1 : (⟨[UInt8.ofNat n].toArray⟩ : ByteArray).size + s.size ≤ 140737488355328 := by
    show 1 + s.size ≤ _; omega
  clear hb hc
  go_wp2_with fail
  refine HJ.out.mono ?_
  rintro e w3 ⟨rfl, rfl⟩
  have hsz : (⟨[UInt8.ofNat n].toArray⟩ : ByteArray).size = 1 := rfl
  unfold str
  generalize hA : (⟨[UInt8.ofNat n].toArray⟩ : ByteArray) = A at *
  have HA := Lib.hid hA
  clear hA
  go_wp2
  go_ret
  exact ⟨by rw [← HA.out]; rfl, HB.out⟩
theorem em_nil : em ⟨#[]⟩ = true := by
  show ((⟨#[]⟩ : ByteArray).toList == []) = true
  rw [ByteArray.toList_eq]; rfl
theorem fit_flush {z : ByteArray} (hz : chk (bl z) = 0) : fitB 5 0 ⟨#[]⟩ ⟨#[]⟩ z [] = true := by
  have : (chk (bl z) == 0) = true := by simpa using hz
  simp [fitB, em_nil, this]
theorem fit_flush_no {z : ByteArray} (hz : ¬ chk (bl z) = 0) : fitB 5 0 ⟨#[]⟩ ⟨#[]⟩ z [] = false := by
  have : (chk (bl z) == 0) = false := by simpa using hz
  simp [fitB, em_nil, this]
theorem fit_join {k n : Int} (hk : k = 1 ∨ k = 2) : fitB k n ⟨#[]⟩ ⟨#[]⟩ ⟨#[]⟩ [] = nodeB n := by
  unfold fitB
  rw [if_pos hk, em_nil]
  simp
set_option maxRecDepth 100000 in
set_option maxHeartbeats 3200000 in
theorem bytes_flush {z : ByteArray} (hz : chk (bl z) = 0) (hs : z.size ≤ 1000000) (w : World) :
    Calls Try.prog 13 #[.agg #[it 5, it 0, .string ⟨#[]⟩, .string ⟨#[]⟩, .string z, .slice none 0 0]] w fun e w' => e = .returned (.tuple #[.string (⟨#[UInt8.ofNat 5]⟩ ++ z), it 0]) ∧ Below w.heap.size w w' := by
  have HC := Lib.hid (Ce.new w 35 #[it 5, it 0, .string ⟨#[]⟩, .string ⟨#[]⟩, .string z, .slice none 0 0])
  have hb := one_new w (.cells #[it 5, it 0, .string ⟨#[]⟩, .string ⟨#[]⟩, .string z, .slice none 0 0] 35)
  have HB := Lib.hid hb
  have HF := Lib.hid (fun w' => ocheck_any (w := w') (k := 5) (nd := 0) (tx := ⟨#[]⟩) (nm := ⟨#[]⟩) (zn := z) (RdX.nil w') (by decide) (by decide) hs)
  rw [fit_flush hz, show (if true = true then (0 : Int) else 1) = 0 from rfl] at HF
  clear hb
  go_enter Try.func13, Try.ntmps13
  go_upto_region 1 with fail
  generalize w.alloc _ = wA at *
  obtain ⟨c0, c1, c2, c3, c4, c5⟩ := c6 HC.out
  go_wp2_with fail
  refine (HF.out _).mono ?_
  rintro e w2 ⟨rfl, hb2⟩
  obtain ⟨c0, c1, c2, c3, c4, c5⟩ := c6 (HC.out.below hb2)
  have HB2 := Lib.hid (HB.out.trans (hb2.mono HB.out.size))
  have HTG := Lib.hid (together_one (w := w2.alloc (.cells #[.string z] 9)) (g := w2.heap.size) (o := 0) (cap := 1) (n := 5) (s := z) (by decide) hs (by rw [(Ce.new w2 9 #[.string z]).cell]; rfl))
  have HB3 := Lib.hid (HB2.out.trans ((one_new w2 (.cells #[.string z] 9)).mono HB2.out.size))
  clear hb2
  go_wp2_with fail
  refine HTG.out.mono ?_
  rintro e w4 ⟨rfl, hb4⟩
  have HB4 := Lib.hid (HB3.out.trans (hb4.mono HB3.out.size))
  clear hb4
  generalize hX : (⟨#[UInt8.ofNat 5]⟩ ++ z : ByteArray) = X at *
  have HX := Lib.hid hX
  clear hX
  go_wp2
  go_ret2
  exact ⟨by rw [HX.out]; rfl, HB4.out⟩
set_option maxRecDepth 100000 in
set_option maxHeartbeats 6400000 in
theorem bytes_join {n : Nat} (hn : n < 64) (w : World) :
    Calls Try.prog 13 #[.agg #[it 1, it (n : Int), .string ⟨#[]⟩, .string ⟨#[]⟩, .string ⟨#[]⟩, .slice none 0 0]] w fun e w' => e = .returned (.tuple #[.string (⟨#[UInt8.ofNat 1]⟩ ++ ⟨#[UInt8.ofNat n]⟩), it 0]) ∧ Below w.heap.size w w' := by
  have HC := Lib.hid (Ce.new w 35 #[it 1, it (n : Int), .string ⟨#[]⟩, .string ⟨#[]⟩, .string ⟨#[]⟩, .slice none 0 0])
  have hb := one_new w (.cells #[it 1, it (n : Int), .string ⟨#[]⟩, .string ⟨#[]⟩, .string ⟨#[]⟩, .slice none 0 0] 35)
  have HB := Lib.hid hb
  have HF := Lib.hid (fun w' => ocheck_any (w := w') (k := 1) (nd := (n : Int)) (tx := ⟨#[]⟩) (nm := ⟨#[]⟩) (zn := ⟨#[]⟩) (RdX.nil w') (by decide) (by decide) (by decide))
  rw [fit_join (.inl rfl), show nodeB (n : Int) = true by simp [nodeB]; omega, show (if true = true then (0 : Int) else 1) = 0 from rfl] at HF
  clear hb
  go_enter Try.func13, Try.ntmps13
  go_upto_region 1 with fail
  generalize w.alloc _ = wA at *
  obtain ⟨c0, c1, c2, c3, c4, c5⟩ := c6 HC.out
  go_wp2_with fail
  refine (HF.out _).mono ?_
  rintro e w2 ⟨rfl, hb2⟩
  have HC2 := Lib.hid (HC.out.below hb2)
  obtain ⟨c0, c1, c2, c3, c4, c5⟩ := c6 HC2.out
  have HB2 := Lib.hid (HB.out.trans (hb2.mono HB.out.size))
  have HSM := Lib.hid (fun w' => small_any n (by omega) w')
  have HTG := Lib.hid (fun (w' : World) => together_one (w := w'.alloc (.cells #[str [UInt8.ofNat n]] 9)) (g := w'.heap.size) (o := 0) (cap := 1) (n := 1) (s := ⟨[UInt8.ofNat n].toArray⟩) (by decide) (by show 1 ≤ _; decide) (by rw [(Ce.new w' 9 #[str [UInt8.ofNat n]]).cell]; rfl))
  have H0 : Hid (Below w2.heap.size w2 w2.drew) := Lib.hid (Below.refl _ w2).drew
  have HK := Lib.hid (fun w' (hb : Below w2.heap.size w2 w') => (show w'.cell? ⟨w.heap.size, 0, none⟩ = some (it 1) ∧ w'.cell? ⟨w.heap.size, 1, none⟩ = some (it (n : Int)) from ⟨(c6 (HC2.out.below hb)).1, (c6 (HC2.out.below hb)).2.1⟩))
  clear hb2
  go_upto_region 11 with fail
  go_region_held3 (fun w' => w'.cell? ⟨w.heap.size, 0, none⟩ = some (it 1) ∧ w'.cell? ⟨w.heap.size, 1, none⟩ = some (it (n : Int)))
    (first | with_reducible exact HK.out _ B6.out | with_reducible exact HK.out _ B5n.out | with_reducible exact HK.out _ B5.out | with_reducible exact HK.out _ H0.out | fail)
    (first
      | (go_at_call 23; refine (HSM.out _).mono ?_; rintro e w5 ⟨rfl, hb5⟩; have B5 : Hid (Below w2.heap.size w2 w5) := Lib.hid (H0.out.trans (hb5.mono H0.out.size)); have B5n := Lib.hid (B5.out.trans ((one_new w5 (.cells #[str [UInt8.ofNat n]] 9)).mono B5.out.size)); clear hb5)
      | (go_at_call 22; refine (HTG.out _).mono ?_; rintro e w6 ⟨rfl, hb6⟩; have B6 : Hid (Below w2.heap.size w2 w6) := Lib.hid (B5n.out.trans (hb6.mono B5n.out.size)); clear hb6)
      | fail)
  all_goals
    have HBF := Lib.hid (HB2.out.trans (B6.out.mono HB2.out.size))
    go_wp2
    go_ret2
    exact ⟨rfl, HBF.out⟩
/-- A flush as change does it. -/
def flC (C : Cf) (z : ByteArray) : Cf := ⟨C.ring, C.hints, C.anchors, C.epoch + 1, flF C.epoch C.flushes z⟩
set_option maxRecDepth 100000 in
set_option maxHeartbeats 3200000 in
theorem change_flush {W : World} {B base : Nat} {r h a fs : Value} {C : Cf} {z : ByteArray} {nd : Int} {nm tx : ByteArray} {hv : Value} (hep : 0 ≤ C.epoch ∧ C.epoch < 1099511627776) (hok : C.Ok) (hz : z.size ≤ 1000000)
    (hC : Ce W B 29 #[r, h, a, it C.epoch, fs]) (hO : OwnC W base r h a fs C) (hB : base ≤ B) (hbs : base ≤ W.heap.size) (hh : ∃ x y z, hv = .slice x y z) :
    Calls Try.prog 18 #[ptr B, .agg #[it 5, it nd, .string nm, .string tx, .string z, hv]] W fun e W' => e = .returned (it 0) ∧ Below base W W' ∧
      ((0 : Int) = 0 → ∃ r' h' a' fs', Ce W' B 29 #[r', h', a', it (flC C z).epoch, fs'] ∧ OwnC W' base r' h' a' fs' (flC C z)) := by
  obtain ⟨va, vn, vc, rfl⟩ := hh
  have hb := one_new W (.cells #[it 5, it nd, .string nm, .string tx, .string z, .slice va vn vc] 35)
  have HC := Lib.hid (Ce.new W 35 #[it 5, it nd, .string nm, .string tx, .string z, .slice va vn vc])
  have HO := Lib.hid (hO.below hb)
  have HF := Lib.hid (flush_any (hC.below hb) HO.out.f (Nat.le_trans hbs hb.size) hep hok.f hz hok.fz)
  have HCB := Lib.hid (hC.below hb)
  have HB := Lib.hid (hb.mono hbs)
  have HBB := Lib.hid hB
  clear hb hC hO
  go_enter Try.func18, Try.ntmps18
  go_upto_region 1 with fail
  generalize W.alloc _ = wA at *
  obtain ⟨c0, c1, c2, c3, c4, c5⟩ := c6 HC.out
  go_wp2_with fail
  refine HF.out.mono ?_
  rintro e w2 ⟨rfl, fs', hC2, hO2, ht⟩
  have hnf : ∀ {α : Type} {E : El α} {v : Value} {L : List α}, OwnX E wA base v L → E.e ≠ 48 → E.e ≠ 29 → OwnX E w2 base v L := by
    intro α E v L ho h48 h29
    refine ho.tr ht (fun g cs hg hv => ?_)
    rintro (rfl | hfs)
    · exact Ce.ne (show Ce wA g E.e cs from hg) HCB.out h29 rfl
    · rcases HO.out.f.2 with ⟨e, _⟩ | ⟨g', cap', cur, e, _, hg', _⟩
      · rw [e] at hfs; cases hfs
      · rw [e] at hfs
        have e2 : g' = g := by simpa [Value.ownBlock] using hfs
        subst e2
        exact Ce.ne (show Ce wA g' E.e cs from hg) (show Ce wA g' 48 cur from hg') h48 rfl
  have HOF : Hid (OwnC w2 base r h a fs' (flC C z)) := Lib.hid ⟨hnf HO.out.r (by decide) (by decide), hnf HO.out.h (by decide) (by decide), hnf HO.out.a (by decide) (by decide), hO2⟩
  have HCF := Lib.hid hC2
  have HBF : Hid (Below base W w2) := Lib.hid (HB.out.trans (ht.below (Nat.le_trans hbs (by have := HB.out.size; exact this)) (fun k hk => by
    rcases hk with rfl | hk
    · exact HBB.out
    · exact (HO.out.f.block k hk).1)))
  clear hnf hC2 hO2 ht
  go_wp2
  go_ret
  exact ⟨rfl, HBF.out, fun _ => ⟨_, _, _, _, HCF.out, HOF.out⟩⟩
end Go.Proofs.Ytjoplnkagfkffaa
