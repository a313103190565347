/-
  What read hands back, for any number and any parts: the state behind the parts, byte by byte; no older memory is changed.
-/
import Derived.Test.YtpiiknbjllgaoaaCEff
import Derived.Test.YtpiiknbjllgaoaaCRef
namespace Go.Proofs.Ytpiiknbjllgaoaa
open Go.RowKit
theorem byte_step (c b : Nat) : c / 256 ^^^ stn 8 (c % 256 ^^^ b) = stn 8 (c ^^^ b) := by
  have e : c = 2 ^ 8 * (c / 256) ^^^ c % 256 := by
    rw [← split_xor (i := 8) _ (Nat.mod_lt _ (by decide))]
    omega
  conv => rhs; rw [e]
  rw [Nat.xor_assoc, stn_xor 8 (2 ^ 8 * (c / 256)), stn_shl]
theorem cidx_eq (c : Nat) (b : Nat) (hb : b < 256) : bits .xor .u8 ((c : Int) % 256) (b : Int) = (c % 256 ^^^ b : Nat) := by
  have h := u8_xor_nat (c % 256) b (Nat.mod_lt _ (by decide)) hb
  exact h
theorem cidx_lt (c : Nat) (b : Nat) (hb : b < 256) : c % 256 ^^^ b < 256 := by
  have h := Nat.xor_lt_two_pow (n := 8) (x := c % 256) (y := b) (Nat.mod_lt _ (by decide)) (by omega)
  omega
/-- The state behind so many of the parts. -/
def fdp (c : Nat) (ps : List ByteArray) (k : Nat) : Nat := (ps.take k).foldl (fun c s => fd c s.data.toList) c
theorem fdp_succ (c : Nat) (ps : List ByteArray) (k : Nat) (s : ByteArray) (h : ps[k]? = some s) : fdp c ps (k + 1) = fd (fdp c ps k) s.data.toList := by
  obtain ⟨hk, e⟩ := List.getElem?_eq_some_iff.1 h
  unfold fdp
  rw [List.take_succ_eq_append_getElem hk, List.foldl_append, e]
  rfl
theorem fdp_lt {c : Nat} (hc : c < 4294967296) (ps : List ByteArray) (k : Nat) : fdp c ps k < 4294967296 := by
  unfold fdp
  generalize ps.take k = l
  induction l generalizing c with
  | nil => exact hc
  | cons s r ih => exact ih (fd_lt s.data.toList hc)
set_option maxRecDepth 100000 in
set_option maxHeartbeats 1600000 in
theorem cread_some (c : Nat) (hc : c < 4294967296) (ps : List ByteArray) (b cap : Nat) (w : World) (hbl : b < w.heap.size)
    (hp : ∀ k s, ps[k]? = some s → w.cell? ⟨b, k, none⟩ = some (.string s)) (hn : ps.length ≤ 1000000) (hsz : ∀ s ∈ ps, s.size ≤ 1000000) :
    Calls Try.prog 73 #[.int .u32 (c : Int), .slice (some ⟨b, 0, none⟩) ps.length cap] w fun e w' => e = .returned (.int .u32 (fdp c ps ps.length : Nat)) ∧ Below w.heap.size w w' := by
  obtain ⟨zv, z45⟩ := zero_of_info zero45
  have HP := Lib.hid hp
  have HSZ := Lib.hid hsz
  clear z45 hp hsz
  obtain ⟨n, hN⟩ : ∃ n, n = ps.length := ⟨_, rfl⟩
  rw [← hN] at hn ⊢
  have HN := Lib.hid hN
  clear hN
  go_enter Try.func73, Try.ntmps73
  go_wp2_with fail
  refine (effects_any w).mono ?_
  rintro e w1 ⟨rfl, hb1⟩
  go_wp2_with (refine wpList_store_row rfl 96 (.tmp 5) (.tmp 9) rfl w1.heap.size (ua (tb 256)) rfl rfl 96 (ua (tb 0)) (heap_alloc_new w1 _) (size45 (tb_length _)) (same_ua (by rw [tb_length, tb_length])) (ua_one _) ?_; rw [World.setRow_alloc_new])
  have hs1 := hb1.size
  have hb2 : Below w.heap.size w (w1.alloc (.cells (ua (tb 256)) 96)) := hb1.alloc hs1 _
  obtain ⟨w2, hw2⟩ : ∃ w2, w2 = w1.alloc (.cells (ua (tb 256)) 96) := ⟨_, rfl⟩
  obtain ⟨g, hg⟩ : ∃ g, g = w1.heap.size := ⟨_, rfl⟩
  have h2 : w2.heap[g]? = some (.cells (ua (tb 256)) 96 (0, 0)) := by rw [hw2, hg]; exact heap_alloc_new w1 _
  change Code.wp _ _ _ _ (w1.alloc (.cells (ua (tb 256)) 96))
  rw [← hw2] at hb2 ⊢
  rw [← hg]
  have H2 := Lib.hid h2
  have HB := Lib.hid hb2
  clear hw2 hg h2 hb1 hs1 hb2 zv
  go_loopw [0, 7, 8, 12, 18] (fun v _p _i i _j wr => ∃ k : Nat, k ≤ n ∧ i = .int .i64 k ∧ v = .int .u32 (fdp c ps k : Nat) ∧ w2 = wr) (fun _ _ _ i _ _ => n - (intOf i).toNat)
  case atStart => exact ⟨0, by omega, rfl, rfl, rfl⟩
  case round =>
    obtain ⟨k, hk, rfl, rfl, rfl⟩ := hrel
    by_cases hlt : k < n
    · obtain ⟨s, hps⟩ : ∃ s, ps[k]? = some s := ⟨_, List.getElem?_eq_getElem (by rw [← HN.out]; exact hlt)⟩
      have hss : s.size ≤ 1000000 := HSZ.out s (List.mem_of_getElem? hps)
      have hcell : w2.cell? ⟨b, k, none⟩ = some (.string s) := (HB.out.cell (p := ⟨b, k, none⟩) hbl).trans (HP.out k s hps)
      have HS := Lib.hid (fdp_succ c ps k s hps)
      have hc0 := fdp_lt hc ps k
      obtain ⟨d, hd⟩ : ∃ d, d = fdp c ps k := ⟨_, rfl⟩
      rw [← hd] at HS hc0 ⊢
      clear hps hd
      go_wp2
      clear hcell
      go_loopw [0, 8, 18] (fun v _i i wr => ∃ j : Nat, j ≤ s.size ∧ i = .int .i64 j ∧ v = .int .u32 (fd d (s.data.toList.take j) : Nat) ∧ w2 = wr) (fun _ _ i _ => s.size - (intOf i).toNat)
      case atStart => exact ⟨0, by omega, rfl, rfl, rfl⟩
      case round =>
        obtain ⟨j, hj, rfl, rfl, rfl⟩ := hrel
        by_cases hlj : j < s.size
        · have hx := fd_lt (s.data.toList.take j) hc0
          have hf := fd_snoc d s j hlj
          have hb : s[j].toNat < 256 := s[j].toNat_lt
          obtain ⟨x, hxe⟩ : ∃ x, x = fd d (s.data.toList.take j) := ⟨_, rfl⟩
          rw [← hxe] at hf hx ⊢
          have hix := cidx_eq x s[j].toNat hb
          have hil := cidx_lt x s[j].toNat hb
          have hbs := byte_step x s[j].toNat
          obtain ⟨J, hJ⟩ : ∃ J, J = x % 256 ^^^ s[j].toNat := ⟨_, rfl⟩
          rw [← hJ] at hix hil hbs
          have cJ := cell_ua H2.out J _ (tb_get 256 J hil hil)
          have hu := u32_xor_nat (x / 256) (stn 8 J) (by omega) (stn_lt 8 (by omega))
          rw [hbs, ← hf] at hu
          have HU := Lib.hid hu
          have hJ0 : (J : Int) < 256 := by omega
          clear hxe hf hbs hJ hu hb
          go_wp2
          go_roundw
          case rel => exact ⟨j + 1, by omega, by go_num, int_u32 HU.out, trivial⟩
          case measure => simp [intOf]; omega
        · have hjs : j = s.size := by omega
          have ht : s.data.toList.take j = s.data.toList := List.take_of_length_le (by rw [hjs]; simp)
          rw [ht, ← HS.out]
          clear ht hjs
          go_wp2
          go_roundw
          case rel => exact ⟨k + 1, by omega, by go_num, rfl, trivial⟩
          case measure => simp [intOf]; omega
    · have hkn : k = n := by omega
      go_wp2
      go_ret
      exact ⟨ret_u32 (a := ((fdp c ps k : Nat) : Int)) (by rw [hkn]), HB.out⟩
set_option maxRecDepth 100000 in
set_option maxHeartbeats 800000 in
theorem cread_nil (c : Nat) (w : World) :
    Calls Try.prog 73 #[.int .u32 (c : Int), .slice none 0 0] w fun e w' => e = .returned (.int .u32 (c : Nat)) ∧ Below w.heap.size w w' := by
  obtain ⟨zv, z45⟩ := zero_of_info zero45
  clear z45
  go_enter Try.func73, Try.ntmps73
  go_wp2_with fail
  refine (effects_any w).mono ?_
  rintro e w1 ⟨rfl, hb1⟩
  go_wp2_with (refine wpList_store_row rfl 96 (.tmp 5) (.tmp 9) rfl w1.heap.size (ua (tb 256)) rfl rfl 96 (ua (tb 0)) (heap_alloc_new w1 _) (size45 (tb_length _)) (same_ua (by rw [tb_length, tb_length])) (ua_one _) ?_; rw [World.setRow_alloc_new])
  have hb2 : Below w.heap.size w (w1.alloc (.cells (ua (tb 256)) 96)) := hb1.alloc hb1.size _
  obtain ⟨w2, hw2⟩ : ∃ w2, w2 = w1.alloc (.cells (ua (tb 256)) 96) := ⟨_, rfl⟩
  change Code.wp _ _ _ _ (w1.alloc (.cells (ua (tb 256)) 96))
  rw [← hw2] at hb2 ⊢
  clear hw2 hb1 zv
  go_loopw [0, 7, 8, 12, 18] (fun v _p _i i _j wr => i = .int .i64 0 ∧ v = .int .u32 (c : Nat) ∧ w2 = wr) (fun _ _ _ i _ _ => 0)
  case atStart => exact ⟨rfl, rfl, rfl⟩
  case round =>
    obtain ⟨rfl, rfl, rfl⟩ := hrel
    go_wp2
    go_ret
    exact ⟨rfl, hb2⟩
end Go.Proofs.Ytpiiknbjllgaoaa
