/-
  The reader of a record, part by part: three closures over what is left, and whether all is right.
-/
import Derived.Test.YtopnmiakljpgbaaNow
namespace Go.Proofs.Ytopnmiakljpgbaa
open Go.RowKit
abbrev fL (n : Nat) : Value := .func (.func 74) #[] #[ptr (n + 2), ptr (n + 1)]
abbrev fB (n : Nat) : Value := .func (.func 75) #[] #[ptr (n + 2), ptr (n + 1)]
abbrev fN (n : Nat) : Value := .func (.func 76) #[] #[ptr n, ptr (n + 2)]
/-- What a reader has left: some bytes, or something was not right. -/
def Rr (w : World) (n : Nat) (s : Option Bs) : Prop := ∃ (ok : Bool) (r : Bs), Ce w n 81 #[fB n] ∧ Ce w (n + 1) 9 #[str r] ∧ Ce w (n + 2) 4 #[.bool ok] ∧ (match s with | some q => ok = true ∧ r = q | none => ok = false) ∧ r.length ≤ 1000000
def byt1 (r : Bs) (k : Int) : Option (Bs × Bs) := if k ≤ r.length then some (r.take k.toNat, r.drop k.toNat) else none
def BytR (s : Option Bs) (k : Int) (b : Bs) (s' : Option Bs) : Prop := match s.bind (byt1 · k) with | some (x, r) => b = x ∧ s' = some r | none => b = [] ∧ s' = none
theorem ba_len' (x : Bs) : (⟨x.toArray⟩ : ByteArray).size = x.length := by simp [size_list]
theorem Rr.below {w w' : World} {n : Nat} {s : Option Bs} (h : Rr w n s) (hb : Below w.heap.size w w') : Rr w' n s := by
  obtain ⟨ok, r, h1, h2, h3, h4, h5⟩ := h
  exact ⟨ok, r, h1.below hb, h2.below hb, h3.below hb, h4, h5⟩
theorem Rr.lt {w : World} {n : Nat} {s : Option Bs} (h : Rr w n s) : n + 2 < w.heap.size := by
  obtain ⟨ok, r, h1, h2, h3, h4, h5⟩ := h
  exact h3.lt
theorem Rr.set {w : World} {n H i : Nat} {s : Option Bs} (h : Rr w n s) (hH : H < n) (v : Value) : Rr (w.setCell ⟨H, i, none⟩ v) n s := by
  obtain ⟨ok, r, h1, h2, h3, h4, h5⟩ := h
  exact ⟨ok, r, h1.other (by omega) v, h2.other (by omega) v, h3.other (by omega) v, h4, h5⟩
theorem resR {fn : Func} {w : World} {tmps : Array Value} {n : Nat} {v : Value} {a b t : Tmp} (h : fn.results = #[.tmp a, .cell t 81, .tmp b]) (e1 : tmps.getD t undef = ptr n) (h1 : Ce w n 81 #[v]) :
    (results fn tmps).run Try.prog w = .ok (.tuple #[tmps.getD a undef, v, tmps.getD b undef]) w := by
  have a0 : w.cell? ⟨n, 0, none⟩ = some v := by rw [h1.cell]; rfl
  rw [Array.getD_eq_getD_getElem?] at e1
  simp [results, h, e1, go_sem, a0]
set_option maxRecDepth 100000 in
set_option maxHeartbeats 3200000 in
theorem reader_any (c : UInt8) (r : Bs) (hr : r.length ≤ 1000000) (w : World) :
    Calls Try.prog 73 #[str (c :: r)] w fun e w' => e = .returned (.tuple #[fN w.heap.size, fB w.heap.size, fL w.heap.size]) ∧ Rr w' w.heap.size (some r) ∧ Below w.heap.size w w' := by
  have hpc := pc_from ⟨(c :: r).toArray⟩ 1 (by rw [ba_len']; simp) .i64
  have hd : (⟨(c :: r).toArray⟩ : ByteArray).data.toList.drop 1 = r := by simp
  rw [hd] at hpc
  obtain ⟨S, hS⟩ : ∃ S : ByteArray, S = ⟨(c :: r).toArray⟩ := ⟨_, rfl⟩
  unfold str
  rw [← hS] at hpc ⊢
  have hS1 : 1 ≤ S.size := by rw [hS, ba_len']; simp
  have HSR := Lib.hid hS
  clear hS hd
  go_enter Try.func73, Try.ntmps73
  go_wp2_with fail
  obtain ⟨n, hn⟩ : ∃ n, n = w.heap.size := ⟨_, rfl⟩
  rw [show w.heap.size + 1 + 1 = w.heap.size + 2 from rfl]
  have H3 := three_new w #[fB w.heap.size] #[.string (S.extract 1 S.size)] #[.bool true] 81 9 4
  generalize ((w.alloc _).alloc _).alloc _ = w1 at *
  rw [← hn] at H3 ⊢
  obtain ⟨h1, h2, h3, h4, h5⟩ := H3
  have k1 : w1.drew.cell? ⟨n, 0, none⟩ = some (fB n) := by rw [show w1.drew.cell? ⟨n, 0, none⟩ = w1.cell? ⟨n, 0, none⟩ from rfl, h1.cell]; rfl
  have k2 : w1.drew.frozen? ⟨n, 0, none⟩ = false := h1.frozen 0
  have HX : S.extract 1 S.size = ⟨r.toArray⟩ := by
    rw [HSR.out, sub_str, ba_len']
    simp
  have H1 := Lib.hid h1
  have H2 := Lib.hid h2
  have H3 := Lib.hid h3
  have H5 := Lib.hid h5
  have HN := Lib.hid hn
  have HXX := Lib.hid HX
  clear h1 h2 h3 h4 h5 hn HX
  go_region
  all_goals
    go_wp2
    rw [← HN.out]
    have hC : Ce (w1.setCell ⟨n, 0, none⟩ (fB n)).drew n 81 #[fB n] := H1.out.set (fB n) (i := 0)
    refine bodyPost_ret (resR rfl (by rfl) hC) rfl ?_
    have h2 := H2.out.other (show n + 1 ≠ n by omega) (fB n) (i := 0)
    rw [HXX.out] at h2
    refine ⟨rfl, ⟨true, r, hC, h2, H3.out.other (show n + 2 ≠ n by omega) (fB n) (i := 0), ⟨rfl, rfl⟩, hr⟩, ?_⟩
    exact (H5.out.setCell (p := ⟨n, 0, none⟩) (Nat.le_refl _) _).drew
def lftV : Option Bs → Int
  | some r => r.length
  | none => -1
set_option maxRecDepth 100000 in
theorem left_any {w : World} {n : Nat} {s : Option Bs} (h : Rr w n s) : Calls Try.prog 74 #[ptr (n + 2), ptr (n + 1)] w fun e w' => e = .returned (it (lftV s)) ∧ w = w' := by
  obtain ⟨ok, r, h1, h2, h3, h4, h5⟩ := h
  have k1 : w.cell? ⟨n + 2, 0, none⟩ = some (.bool ok) := by rw [h3.cell]; rfl
  have k2 : w.cell? ⟨n + 1, 0, none⟩ = some (str r) := by rw [h2.cell]; rfl
  have hz := ba_len' r
  obtain ⟨R, hR⟩ : ∃ R : ByteArray, R = ⟨r.toArray⟩ := ⟨_, rfl⟩
  unfold str at k2
  rw [← hR] at k2 hz
  have HZ := Lib.hid hz
  clear h1 h2 h3 hR hz
  cases s with
  | some q =>
    obtain ⟨rfl, rfl⟩ := h4
    go_enter Try.func74, Try.ntmps74
    go_wp2
    go_ret
    exact ⟨by rw [HZ.out]; rfl, rfl⟩
  | none =>
    obtain rfl := h4
    go_enter Try.func74, Try.ntmps74
    go_wp2
    go_ret
    exact ⟨rfl, rfl⟩
theorem Rr.mk {w : World} {n : Nat} {q : Bs} (h1 : Ce w n 81 #[fB n]) (h2 : Ce w (n + 1) 9 #[str q]) (h3 : Ce w (n + 2) 4 #[.bool true]) (h5 : q.length ≤ 1000000) : Rr w n (some q) := ⟨true, q, h1, h2, h3, ⟨rfl, rfl⟩, h5⟩
theorem Rr.no {w : World} {n : Nat} {q : Bs} (h1 : Ce w n 81 #[fB n]) (h2 : Ce w (n + 1) 9 #[str q]) (h3 : Ce w (n + 2) 4 #[.bool false]) (h5 : q.length ≤ 1000000) : Rr w n none := ⟨false, q, h1, h2, h3, rfl, h5⟩
set_option maxRecDepth 100000 in
set_option maxHeartbeats 3200000 in
theorem bytes_any {w : World} {n : Nat} {s : Option Bs} (h : Rr w n s) (k : Int) (hk : s ≠ none → 0 ≤ k) :
    Calls Try.prog 75 #[it k, ptr (n + 2), ptr (n + 1)] w fun e w' => ∃ b s', e = .returned (str b) ∧ Rr w' n s' ∧ Below n w w' ∧ b.length ≤ 1000000 ∧ BytR s k b s' := by
  have hlt := h.lt
  obtain ⟨ok, r, h1, h2, h3, h4, h5⟩ := h
  have k1 : w.cell? ⟨n + 2, 0, none⟩ = some (.bool ok) := by rw [h3.cell]; rfl
  have k2 : w.cell? ⟨n + 1, 0, none⟩ = some (str r) := by rw [h2.cell]; rfl
  have j1 : w.frozen? ⟨n + 2, 0, none⟩ = false := h3.frozen 0
  have j2 : w.frozen? ⟨n + 1, 0, none⟩ = false := h2.frozen 0
  have hz := ba_len' r
  obtain ⟨R, hR⟩ : ∃ R : ByteArray, R = ⟨r.toArray⟩ := ⟨_, rfl⟩
  unfold str at k2
  rw [← hR] at k2 hz
  have HZ := Lib.hid hz
  have HR := Lib.hid hR
  have H1 := Lib.hid h1
  have H2 := Lib.hid h2
  have H3 := Lib.hid h3
  clear h1 h2 h3 hR hz
  cases s with
  | none =>
    obtain rfl := h4
    go_enter Try.func75, Try.ntmps75
    go_wp2
    go_ret
    refine ⟨[], none, rfl, Rr.no (H1.out.other (by omega) _) (H2.out.other (by omega) _) (H3.out.set _ (i := 0)) h5, (Below.refl _ _).setCell (p := ⟨n + 2, 0, none⟩) (by show n ≤ n + 2; omega) _, by simp, rfl, rfl⟩
  | some q =>
    obtain ⟨rfl, rfl⟩ := h4
    have hk0 := hk (by simp)
    obtain ⟨kn, rfl⟩ := Int.eq_ofNat_of_zero_le hk0
    by_cases hlk : kn ≤ r.length
    · have q1 : ((kn : Nat) : Int) ≤ (R.size : Int) := by have := HZ.out; omega
      have q2 : kn ≤ R.size := by have := HZ.out; omega
      have HBY : Hid (BytR (some r) (kn : Int) (r.take kn) (some (r.drop kn))) := Lib.hid (by unfold BytR byt1; simp [hlk])
      obtain ⟨w1, hw1⟩ : ∃ w1, w1 = w.setCell ⟨n + 2, 0, none⟩ (.bool true) := ⟨_, rfl⟩
      have G1 : Hid (Ce w1 n 81 #[fB n]) := Lib.hid (by rw [hw1]; exact H1.out.other (by omega) _)
      have G2 : Hid (Ce w1 (n + 1) 9 #[str r]) := Lib.hid (by rw [hw1]; exact H2.out.other (by omega) _)
      have G3 : Hid (Ce w1 (n + 2) 4 #[.bool true]) := Lib.hid (by rw [hw1]; exact H3.out.set _ (i := 0))
      have HB1 : Hid (Below n w w1) := Lib.hid (by rw [hw1]; exact (Below.refl _ _).setCell (p := ⟨n + 2, 0, none⟩) (by show n ≤ n + 2; omega) _)
      obtain ⟨PB, hPB⟩ : ∃ PB, PB = R.extract 0 kn := ⟨_, rfl⟩
      obtain ⟨C, w2, hcv, hby, hb2⟩ := conv_bys PB w1
      have hpl : PB = ⟨(r.take kn).toArray⟩ := by rw [hPB, HR.out, sub_str]; simp
      have hback : (convert 75 9 (.slice (some ⟨w1.heap.size, 0, none⟩) PB.size C)).run Try.prog w2 = .ok (.string PB) w2 := by
        have := run_convert_bytes_back (P := Try.prog) w2 75 9 5 ⟨w1.heap.size, 0, none⟩ C PB.data.toList Try.underlying75 Try.underlying5 Try.underlying9 (fun j hj => by
          have := hby j _ (List.getElem?_eq_getElem hj)
          rw [add_any]
          simpa using this)
        rw [← size_list] at this
        rw [this]
      have g1 : w1.cell? ⟨n + 2, 0, none⟩ = some (.bool true) := by rw [G3.out.cell]; rfl
      have g2 : w1.cell? ⟨n + 1, 0, none⟩ = some (.string R) := by rw [G2.out.cell, HR.out]; rfl
      have e2 : w2.cell? ⟨n + 1, 0, none⟩ = some (.string R) := by rw [(G2.out.below hb2).cell, HR.out]; rfl
      have e3 : w2.frozen? ⟨n + 1, 0, none⟩ = false := (G2.out.below hb2).frozen 0
      have HPL := Lib.hid hpl
      have HB2 := Lib.hid hb2
      have hrl : (r.take kn).length ≤ 1000000 := by rw [List.length_take]; omega
      have hrl2 : (r.drop kn).length ≤ 1000000 := by rw [List.length_drop]; omega
      have HPB := Lib.hid hPB
      have hsx : R.extract 0 kn = PB := hPB.symm
      clear hby hb2 hPB hpl
      go_enter Try.func75, Try.ntmps75
      go_upto_region 2 with fail
      rw [← hw1]
      clear hw1 k1 k2 j1 j2
      go_wp2
      go_ret
      refine ⟨r.take kn, some (r.drop kn), by rw [HPL.out]; rfl, Rr.mk ((G1.out.below HB2.out).other (by omega) _) ?_ ((G3.out.below HB2.out).other (by omega) _) hrl2, (HB1.out.trans (HB2.out.mono (by have := HB1.out.size; omega))).setCell (p := ⟨n + 1, 0, none⟩) (Nat.le_succ n) _, hrl, HBY.out⟩
      have := (G2.out.below HB2.out).set (.string (R.extract kn R.size)) (i := 0)
      rw [show R.extract kn R.size = ⟨(r.drop kn).toArray⟩ by rw [HR.out, sub_str, ba_len']; simp] at this
      rw [show R.extract kn R.size = ⟨(r.drop kn).toArray⟩ by rw [HR.out, sub_str, ba_len']; simp]
      exact this
    · have q1 : decide (((kn : Nat) : Int) ≤ (R.size : Int)) = false := decide_eq_false (by have := HZ.out; omega)
      have q2 : decide (kn ≤ R.size) = false := decide_eq_false (by have := HZ.out; omega)
      have HBY : Hid (BytR (some r) (kn : Int) [] none) := Lib.hid (by unfold BytR byt1; simp [hlk])
      go_enter Try.func75, Try.ntmps75
      go_wp2
      go_ret
      refine ⟨[], none, rfl, Rr.no (H1.out.other (by omega) _) (by have := H2.out.other (show n + 1 ≠ n + 2 by omega) (.bool false) (i := 0); exact this) (H3.out.set _ (i := 0)) h5, (Below.refl _ _).setCell (p := ⟨n + 2, 0, none⟩) (by show n ≤ n + 2; omega) _, by simp, HBY.out⟩
def beV (l : Bs) : Nat := l.foldl (fun a b => a * 256 + b.toNat) 0
theorem beV_snoc (l : Bs) (b : UInt8) : beV (l ++ [b]) = beV l * 256 + b.toNat := by
  unfold beV; rw [List.foldl_append]; rfl
theorem beV_small : ∀ (k : Nat) (l : Bs), l.length ≤ k → beV l < 256 ^ k
  | 0, l, h => by
    obtain rfl := List.eq_nil_of_length_eq_zero (Nat.le_zero.1 h)
    decide
  | k + 1, l, h => by
    rcases List.eq_nil_or_concat l with rfl | ⟨m, b, rfl⟩
    · exact Nat.pow_pos (by decide)
    · rw [List.concat_eq_append] at h ⊢
      rw [beV_snoc]
      have h1 := beV_small k m (by rw [List.length_append] at h; simp at h; omega)
      have h2 := b.toNat_lt
      rw [Nat.pow_succ]
      omega
theorem u64_or_byte (x c : Nat) (hx : x < 72057594037927936) (hc : c < 256) : bits .or .u64 ((x : Int) * 256) (c : Int) = ((x * 256 + c : Nat) : Int) := by
  have h := u64_or_nat (x * 256) c (by omega) (by omega)
  have h2 : x * 256 ||| c = x * 256 + c := by
    have := Nat.two_pow_add_eq_or_of_lt (i := 8) (by omega : c < 2 ^ 8) x
    rw [Nat.mul_comm x 256]
    exact this.symm
  rw [h2] at h
  rw [← h, show ((x * 256 : Nat) : Int) = (x : Int) * 256 from Int.natCast_mul x 256]
def num1 (r : Bs) : Option (Int × Bs) := if 8 ≤ r.length ∧ beV (r.take 8) < 2199023255552 then some ((beV (r.take 8) : Nat), r.drop 8) else none
def NumR (s : Option Bs) (v : Int) (s' : Option Bs) : Prop := match s.bind num1 with | some (x, r) => v = x ∧ s' = some r | none => s' = none
theorem bytR_8 {s : Option Bs} {b : Bs} {s' : Option Bs} (h : BytR s 8 b s') : b.length ≤ 8 ∧ ((∃ r, s' = some r) → b.length = 8) := by
  unfold BytR byt1 at h
  cases s with
  | none => obtain ⟨rfl, rfl⟩ := h; simp
  | some r =>
    by_cases h8 : (8 : Int) ≤ r.length
    · simp [h8] at h
      obtain ⟨rfl, rfl⟩ := h
      have : 8 ≤ r.length := by omega
      simp; omega
    · simp [h8] at h
      obtain ⟨rfl, rfl⟩ := h
      simp
theorem numR_of {s : Option Bs} {b : Bs} {s' : Option Bs} (h : BytR s 8 b s') : (∀ q, s' = some q → beV b < 2199023255552 → NumR s (beV b : Nat) (some q)) ∧ ((s' = none ∨ 2199023255552 ≤ beV b) → ∀ v, NumR s v none) := by
  unfold BytR byt1 at h
  cases s with
  | none => obtain ⟨rfl, rfl⟩ := h; exact ⟨fun q hq => (by cases hq), fun _ v => rfl⟩
  | some r =>
    by_cases h8 : (8 : Int) ≤ r.length
    · have h8' : 8 ≤ r.length := by omega
      simp [h8] at h
      obtain ⟨rfl, rfl⟩ := h
      refine ⟨fun q hq hv => ?_, fun hv v => ?_⟩
      · cases hq
        unfold NumR num1
        simp [h8', hv]
      · rcases hv with hv | hv
        · cases hv
        · unfold NumR num1
          simp [Nat.not_lt.2 hv]
    · have h8' : ¬ 8 ≤ r.length := by omega
      simp [h8] at h
      obtain ⟨rfl, rfl⟩ := h
      refine ⟨fun q hq => (by cases hq), fun _ v => ?_⟩
      unfold NumR num1
      simp [h8']
set_option maxRecDepth 100000 in
set_option maxHeartbeats 3200000 in
theorem rnumber_any {w : World} {n : Nat} {s : Option Bs} (h : Rr w n s) : Calls Try.prog 76 #[ptr n, ptr (n + 2)] w fun e w' => ∃ v s', e = .returned (it v) ∧ Rr w' n s' ∧ Below n w w' ∧ NumR s v s' := by
  have HR := Lib.hid h
  have k0 : w.cell? ⟨n, 0, none⟩ = some (fB n) := by obtain ⟨ok, r, h1, _⟩ := h; rw [h1.cell]; rfl
  clear h
  go_enter Try.func76, Try.ntmps76
  go_wp2_with fail
  refine (bytes_any HR.out 8 (fun _ => by decide)).mono ?_
  rintro e w1 ⟨b, s1, rfl, hR1, hb1, hbl, hBY⟩
  have h8 := (bytR_8 hBY).1
  have HBY := Lib.hid hBY
  have HR1 := Lib.hid hR1
  have HB1 := Lib.hid hb1
  obtain ⟨C, w2, hcv, hby, hb2⟩ := conv_bys ⟨b.toArray⟩ w1
  have hd : (⟨b.toArray⟩ : ByteArray).data.toList = b := by simp
  rw [hd] at hby
  rw [ba_len'] at hcv
  have hR2 := hR1.below hb2
  have HB2 := Lib.hid (hb1.trans (hb2.mono (by have := hR1.lt; omega)))
  have HR2 := Lib.hid hR2
  have HBYS := Lib.hid hby
  obtain ⟨m, hm⟩ : ∃ m, m = b.length := ⟨_, rfl⟩
  rw [← hm] at hcv h8
  have HM := Lib.hid hm
  obtain ⟨N, hN⟩ : ∃ N, N = w1.heap.size := ⟨_, rfl⟩
  rw [← hN] at hcv HBYS
  have HBS : Hid (n + 2 < w2.heap.size) := Lib.hid hR2.lt
  obtain ⟨S, hS⟩ : ∃ S : ByteArray, S = ⟨b.toArray⟩ := ⟨_, rfl⟩
  unfold str
  rw [← hS] at hcv ⊢
  clear hBY hR1 hb1 hbl hby hb2 hd hR2 hm hN hS k0
  go_wp2_with fail
  go_loopw [3, 5, 10] (fun v _ i wr => ∃ k : Nat, k ≤ m ∧ i = it (k : Int) ∧ v = .int .u64 (beV (b.take k) : Nat) ∧ w2 = wr) (fun _ _ i _ => m - (intOf i).toNat)
  case atStart => exact ⟨0, by omega, rfl, rfl, rfl⟩
  case round =>
    obtain ⟨k, hk, rfl, rfl, rfl⟩ := hrel
    by_cases hlt : k < m
    · have q : (k : Int) < (m : Int) := by omega
      obtain ⟨x, hx⟩ : ∃ x, b[k]? = some x := ⟨_, List.getElem?_eq_getElem (by have := HM.out; omega)⟩
      have c0 := HBYS.out k x hx
      have hsm : beV (b.take k) < 72057594037927936 := by
        have := beV_small 7 (b.take k) (by rw [List.length_take]; omega)
        simpa using this
      have hor := u64_or_byte (beV (b.take k)) x.toNat hsm x.toNat_lt
      have hsn := beV_snoc (b.take k) x
      rw [← take_succ_of hx] at hsn
      rw [← hsn] at hor
      have HSN := Lib.hid hsn
      obtain ⟨z, hz⟩ : ∃ z, z = beV (b.take k) := ⟨_, rfl⟩
      rw [← hz] at hor hsm ⊢
      have HOR := Lib.hid hor
      have hw : IntKind.u64.wrap ((z : Int) * 256) = (z : Int) * 256 := by
        unfold IntKind.wrap
        simp only [IntKind.bits, IntKind.signed, Bool.false_eq_true, if_false, Bool.false_and]
        omega
      have HWX : Hid (IntKind.u64.wrap ((x.toNat : Nat) : Int) = (x.toNat : Int)) := Lib.hid (by
        have := x.toNat_lt
        unfold IntKind.wrap
        simp only [IntKind.bits, IntKind.signed, Bool.false_eq_true, if_false, Bool.false_and]
        omega)
      clear hor hsn hz hx
      go_wp2
      go_roundw
      case rel => exact ⟨k + 1, by omega, by go_num, congrArg (Value.int .u64) (by rw [HWX.out]; exact HOR.out), trivial⟩
      case measure => simp [intOf]; omega
    · have q : decide ((k : Int) < (m : Int)) = false := decide_eq_false (by omega)
      have q2 : decide (k < m) = false := decide_eq_false (by omega)
      rw [show b.take k = b from List.take_of_length_le (by have := HM.out; omega)]
      have hnr := numR_of HBY.out
      have hz64 : beV b < 18446744073709551616 := by
        have := beV_small 8 b (by have := HM.out; omega)
        simpa using this
      obtain ⟨z, hz⟩ : ∃ z, z = beV b := ⟨_, rfl⟩
      rw [← hz] at hnr hz64 ⊢
      have HNR := Lib.hid hnr
      obtain ⟨ok, r, h1, h2, h3, h4, h5⟩ := HR2.out
      have k1 : w2.cell? ⟨n + 2, 0, none⟩ = some (.bool ok) := by rw [h3.cell]; rfl
      have j1 : w2.frozen? ⟨n + 2, 0, none⟩ = false := h3.frozen 0
      have H1 := Lib.hid h1
      have H2 := Lib.hid h2
      have H3 := Lib.hid h3
      have H4 := Lib.hid h4
      clear h1 h2 h3 h4 hz hnr
      cases ok with
      | false =>
        have hs1 : s1 = none := by
          cases s1 with
          | none => rfl
          | some q => have := H4.out.1; cases this
        have HF := Lib.hid (HNR.out.2 (.inl hs1))
        go_wp2
        all_goals
          go_ret
          exact ⟨_, rfl, none, Rr.no (H1.out.other (by omega) _) (H2.out.other (by omega) _) (H3.out.set _ (i := 0)) h5, HB2.out.setCell (p := ⟨n + 2, 0, none⟩) (by show n ≤ n + 2; omega) _, HF.out _⟩
      | true =>
        obtain ⟨q0, rfl⟩ : ∃ q0, s1 = some q0 := by
          cases s1 with
          | some q => exact ⟨q, rfl⟩
          | none => have := H4.out; cases this
        obtain rfl := H4.out.2
        by_cases hv : z < 2199023255552
        · have q3 : (z : Int) < 2199023255552 := by omega
          have q4 : z < 2199023255552 := hv
          have hwi : IntKind.i64.wrap (z : Int) = z := by unfold IntKind.wrap; simp only [IntKind.bits, IntKind.signed]; simp; omega
          have HF := Lib.hid (HNR.out.1 _ rfl hv)
          go_wp2
          all_goals
            go_ret
            exact ⟨_, rfl, some _, Rr.mk (H1.out.other (by omega) _) (H2.out.other (by omega) _) (H3.out.set _ (i := 0)) h5, HB2.out.setCell (p := ⟨n + 2, 0, none⟩) (by show n ≤ n + 2; omega) _, HF.out⟩
        · have q3 : decide ((z : Int) < 2199023255552) = false := decide_eq_false (by omega)
          have q4 : decide (z < 2199023255552) = false := decide_eq_false hv
          have HF := Lib.hid (HNR.out.2 (.inr (by omega)))
          go_wp2
          all_goals
            go_ret
            exact ⟨_, rfl, none, Rr.no (H1.out.other (by omega) _) (H2.out.other (by omega) _) (H3.out.set _ (i := 0)) h5, HB2.out.setCell (p := ⟨n + 2, 0, none⟩) (by show n ≤ n + 2; omega) _, HF.out _⟩
end Go.Proofs.Ytopnmiakljpgbaa
