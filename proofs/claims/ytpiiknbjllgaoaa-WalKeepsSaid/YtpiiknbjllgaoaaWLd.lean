/-
  A disk that has at most the log and what is about to replace it: how each call of the disk leaves it.
-/
import Derived.Test.YtpiiknbjllgaoaaWRem
import Derived.Test.YtpiiknbjllgaoaaWMath
namespace Go.Proofs.Ytpiiknbjllgaoaa
open Go.RowKit
def walN : ByteArray := ⟨#[119, 97, 108]⟩
def newN : ByteArray := ⟨#[119, 97, 108, 46, 110, 101, 119]⟩
theorem names_ne : (walN = newN) = False := by
  apply eq_false; intro h; have := congrArg ByteArray.size h; revert this; decide
theorem names_ne' : (newN = walN) = False := by
  apply eq_false; intro h; exact names_ne.mp h.symm
theorem gn_wal : Gn walN := by constructor <;> decide
theorem gn_new : Gn newN := by constructor <;> decide
/-- The log, and what is about to replace it: bytes, and how many of them are durable. -/
structure Ld where
  lo : Option (Bs × Nat)
  nw : Option (Bs × Nat)
  room : Nat
  steps : Nat
  left : Nat
  off : Bool
  sch : Bool
def Ld.fs (x : Ld) : List Fl := (x.lo.toList.map fun p => ⟨walN, p.1, p.2⟩) ++ (x.nw.toList.map fun p => ⟨newN, p.1, p.2⟩)
def Ld.dk (x : Ld) : Dk := ⟨x.fs, x.room, x.steps, x.left, x.off, x.sch⟩
def nmOf (i : Bool) : ByteArray := if i then newN else walN
theorem gn_of (i : Bool) : Gn (nmOf i) := by cases i; exact gn_wal; exact gn_new
def Ld.get (x : Ld) (i : Bool) : Option (Bs × Nat) := if i then x.nw else x.lo
def Ld.set (x : Ld) (i : Bool) (o : Option (Bs × Nat)) : Ld := if i then { x with nw := o } else { x with lo := o }
def Ld.byt (x : Ld) (i : Bool) : Bs := match x.get i with | some p => p.1 | none => []
def Ld.dur (x : Ld) (i : Bool) : Nat := match x.get i with | some p => p.2 | none => 0
def Ld.step (x : Ld) : Ld := { x with left := if x.sch then x.left - 1 else x.left, steps := x.steps + 1 }
def Ld.dead (x : Ld) : Ld := { x with off := true }
def Ld.stops (x : Ld) : Bool := x.sch && decide (x.left = 0)
def Ld.E (x : Ld) (e : Int) : Int := if x.off then 14 else if e ≠ 0 then e else if x.stops then 14 else 0
def Ld.af (x : Ld) (e : Int) : Ld := if x.off then x else if e ≠ 0 then x else if x.stops then x.dead else x.step
def Ld.used (x : Ld) : Nat := (x.byt false).length + (x.byt true).length
def Ld.fit (x : Ld) (n : Nat) : Int := if x.used + n ≤ x.room then 0 else 15
def Ld.has (x : Ld) (i : Bool) : Int := if (x.get i).isSome then 0 else 12
theorem preE_dk (x : Ld) (e : Int) : preE x.dk e = x.E e := rfl
theorem preD_dk (x : Ld) (e : Int) : preD x.dk e = (x.af e).dk := by
  unfold preD Ld.af
  show (if x.off then x.dk else if e ≠ 0 then x.dk else if x.stops then offD x.dk else stepD x.dk) = _
  split
  · rfl
  · split
    · rfl
    · split <;> rfl
theorem used_dk (x : Ld) : x.dk.used = x.used := by
  obtain ⟨lo, nw, room, steps, left, off, sch⟩ := x
  cases lo <;> cases nw <;> simp [Dk.used, Ld.dk, Ld.fs, usedL, Fl.size, Ld.used, Ld.byt, Ld.get]
theorem find_dk (x : Ld) (i : Bool) : findF x.fs (nmOf i) = (x.get i).map fun p => ⟨nmOf i, p.1, p.2⟩ := by
  obtain ⟨lo, nw, room, steps, left, off, sch⟩ := x
  cases i <;> cases lo <;> cases nw <;> simp [findF, Ld.fs, nmOf, Ld.get, names_ne, names_ne']
theorem del_dk (x : Ld) (i : Bool) : delF x.fs (nmOf i) = (x.set i none).fs := by
  obtain ⟨lo, nw, room, steps, left, off, sch⟩ := x
  cases i <;> cases lo <;> cases nw <;> simp [delF, Ld.fs, nmOf, Ld.set, names_ne, names_ne']
theorem upd_dk (x : Ld) (i : Bool) (p : Bs × Nat) (h : x.get i = some p) (R : Bs) (t : Nat) : updF x.fs (nmOf i) (fun f => ⟨f.name, R, t⟩) = (x.set i (some (R, t))).fs := by
  obtain ⟨lo, nw, room, steps, left, off, sch⟩ := x
  cases i <;> cases lo <;> cases nw <;> simp [Ld.get] at h <;> simp [updF, Ld.fs, nmOf, Ld.set, names_ne, names_ne']
theorem cons_dk (x : Ld) (i : Bool) (R : Bs) (t : Nat) : ((⟨nmOf i, R, t⟩ : Fl) :: (x.set i none).fs).Perm (x.set i (some (R, t))).fs := by
  obtain ⟨lo, nw, room, steps, left, off, sch⟩ := x
  cases i <;> cases lo <;> cases nw <;> simp [Ld.fs, nmOf, Ld.set]
  all_goals exact List.Perm.swap _ _ _
theorem has_dk (x : Ld) (i : Bool) : hasE x.dk (nmOf i) = x.has i := by
  unfold hasE Ld.has
  rw [show x.dk.fs = x.fs from rfl, find_dk]
  cases x.get i <;> rfl
theorem fs_len (x : Ld) : x.dk.fs.length ≤ 1000000 := by
  obtain ⟨lo, nw, room, steps, left, off, sch⟩ := x
  cases lo <;> cases nw <;> simp [Ld.dk, Ld.fs]
/-- What each call leaves. -/
def Ld.app (x : Ld) (i : Bool) (s : Bs) : Ld := if x.E (x.fit s.length) = 0 then x.step.set i (some (x.byt i ++ s, x.dur i)) else x.af (x.fit s.length)
def Ld.syn (x : Ld) (i : Bool) : Ld := if x.E (x.has i) = 0 then x.step.set i (some (x.byt i, (x.byt i).length)) else x.af (x.has i)
def Ld.rem (x : Ld) (i : Bool) : Ld := if x.E (x.has i) = 0 then x.step.set i none else x.af (x.has i)
def Ld.ren (x : Ld) : Ld := if x.E (x.has true) = 0 then { x.step with lo := x.nw, nw := none } else x.af (x.has true)
def Ld.cut (x : Ld) (i : Bool) (n : Nat) : Ld := if x.E 0 = 0 then x.step.set i (some ((x.byt i).take n, min (x.dur i) n)) else x.af 0
/-- What is small enough for the calls. -/
structure Ld.Ok (x : Ld) : Prop where
  st : x.steps ≤ 1000000000
  lf : x.left ≤ mostL
  us : x.used ≤ 900000000
  rm : x.room ≤ 1000000000
section
variable {S : Nat → Prop} {b : Nat} {x : Ld} {w : World}
theorem Lft.perm {d d' : Dk} {w' : World} (h : Lft S b d w w') (hp : d.fs.Perm d'.fs) (hr : d'.room = d.room ∧ d'.steps = d.steps ∧ d'.left = d.left ∧ d'.off = d.off ∧ d'.sch = d.sch) : Lft S b d' w w' := ⟨h.1.perm hp hr, h.2⟩
theorem step_set (x : Ld) (i : Bool) (o : Option (Bs × Nat)) : (x.step.set i o).room = x.step.room ∧ (x.step.set i o).steps = x.step.steps ∧ (x.step.set i o).left = x.step.left ∧ (x.step.set i o).off = x.step.off ∧ (x.step.set i o).sch = x.step.sch := by
  cases i <;> exact ⟨rfl, rfl, rfl, rfl, rfl⟩
theorem get_step (x : Ld) (i : Bool) : x.step.get i = x.get i := by cases i <;> rfl
theorem app_fs (x : Ld) (i : Bool) (s : Bs) : (addTo (stepD x.dk) (nmOf i) s).fs.Perm (x.step.set i (some (x.byt i ++ s, x.dur i))).fs := by
  show (addTo x.step.dk (nmOf i) s).fs.Perm _
  have hb : x.byt i = x.step.byt i := by unfold Ld.byt; rw [get_step]
  have hd : x.dur i = x.step.dur i := by unfold Ld.dur; rw [get_step]
  rw [hb, hd]
  generalize x.step = y
  unfold addTo putIf
  have hf := find_dk y i
  cases hg : y.get i with
  | some p =>
    rw [hg] at hf
    rw [show findF y.dk.fs (nmOf i) = _ from hf]
    show (withF y.fs (nmOf i) _).Perm _
    unfold withF
    rw [hf]
    simp only [Option.map_some]
    rw [upd_dk y i p hg]
    unfold Ld.byt Ld.dur
    rw [hg]
  | none =>
    rw [hg] at hf
    rw [show findF y.dk.fs (nmOf i) = _ from hf]
    show (withF (⟨nmOf i, [], 0⟩ :: delF y.fs (nmOf i)) (nmOf i) _).Perm _
    unfold withF
    rw [show findF (⟨nmOf i, [], 0⟩ :: delF y.fs (nmOf i)) (nmOf i) = some ⟨nmOf i, [], 0⟩ by simp [findF]]
    simp only
    have : ∀ l : List Fl, updF (delF l (nmOf i)) (nmOf i) (fun f => ⟨f.name, ([] : Bs) ++ s, 0⟩) = delF l (nmOf i) := by
      intro l
      unfold updF
      rw [List.map_congr_left (g := id), List.map_id]
      intro f hf
      have := (List.mem_filter.1 hf).2
      simp at this
      simp [this]
    show (updF (⟨nmOf i, [], 0⟩ :: delF y.fs (nmOf i)) (nmOf i) (fun f => ⟨f.name, ([] : Bs) ++ s, 0⟩)).Perm _
    have e : updF (⟨nmOf i, [], 0⟩ :: delF y.fs (nmOf i)) (nmOf i) (fun f => ⟨f.name, ([] : Bs) ++ s, 0⟩) = ⟨nmOf i, s, 0⟩ :: updF (delF y.fs (nmOf i)) (nmOf i) (fun f => ⟨f.name, ([] : Bs) ++ s, 0⟩) := by
      simp [updF]
    rw [e, this, del_dk]
    have hb : y.byt i = [] := by unfold Ld.byt; rw [hg]
    have hd : y.dur i = 0 := by unfold Ld.dur; rw [hg]
    rw [hb, hd]
    exact cons_dk y i s 0
theorem lapp_any (h : PD S b x.dk w) (ok : x.Ok) (i : Bool) (s : ByteArray) (hs : s.size ≤ 1000000) :
    Calls Try.prog 69 #[ptr b, .string (nmOf i), .string s] w fun e w' => e = .returned (.int .i64 (x.E (x.fit s.size))) ∧ Lft S b (x.app i s.data.toList).dk w w' := by
  refine (append_any h (nmOf i) (gn_of i) s hs ok.st ok.lf (by rw [used_dk]; exact ok.us) ok.rm (fs_len x)).mono ?_
  rintro e w' ⟨rfl, hl⟩
  have hE : appE x.dk s.data.toList = x.E (x.fit s.data.toList.length) := by
    unfold appE fitE; rw [used_dk]; rfl
  rw [size_list]
  refine ⟨by rw [hE], ?_⟩
  unfold appD at hl
  unfold Ld.app
  rw [hE] at hl
  split at hl
  · rename_i h0
    rw [if_pos h0]
    refine hl.perm (app_fs x i _) ?_
    unfold addTo putIf
    obtain ⟨a1, a2, a3, a4, a5⟩ := step_set x i (some (x.byt i ++ s.data.toList, x.dur i))
    split <;> exact ⟨a1, a2, a3, a4, a5⟩
  · rename_i h0
    rw [if_neg h0]
    have : preD x.dk (fitE x.dk s.data.toList.length) = (x.af (x.fit s.data.toList.length)).dk := by
      rw [← preD_dk]; unfold fitE; rw [used_dk]; rfl
    rwa [this] at hl
theorem E_has {e : Int} (h : x.E e = 0) : e = 0 := by
  unfold Ld.E at h
  split at h
  · omega
  · split at h
    · exact h
    · rename_i h2; exact Decidable.not_not.1 h2
theorem get_has {i : Bool} (h : x.E (x.has i) = 0) : ∃ p, x.get i = some p := by
  have := E_has h
  unfold Ld.has at this
  cases hg : x.get i with
  | none => rw [hg] at this; simp at this
  | some p => exact ⟨p, rfl⟩
theorem lsync_any (h : PD S b x.dk w) (ok : x.Ok) (i : Bool) :
    Calls Try.prog 66 #[ptr b, .string (nmOf i)] w fun e w' => e = .returned (.int .i64 (x.E (x.has i))) ∧ Lft S b (x.syn i).dk w w' := by
  refine (sync_any h (nmOf i) (gn_of i) ok.st ok.lf).mono ?_
  rintro e w' ⟨rfl, hl⟩
  have hE : synE x.dk (nmOf i) = x.E (x.has i) := by unfold synE; rw [has_dk]; rfl
  refine ⟨by rw [hE], ?_⟩
  unfold synD at hl
  unfold Ld.syn
  rw [hE] at hl
  split at hl
  · rename_i h0
    rw [if_pos h0]
    obtain ⟨p, hp⟩ := get_has h0
    have e1 : withF x.dk.fs (nmOf i) (fun f => ⟨f.name, f.data, f.data.length⟩) = (x.step.set i (some (x.byt i, (x.byt i).length))).fs := by
      unfold withF
      rw [show findF x.dk.fs (nmOf i) = _ from find_dk x i, hp]
      simp only [Option.map_some]
      have := upd_dk x.step i p (by rw [get_step]; exact hp) p.1 p.1.length
      unfold Ld.byt
      rw [hp]
      exact this
    rw [e1] at hl
    obtain ⟨a1, a2, a3, a4, a5⟩ := step_set x i (some (x.byt i, (x.byt i).length))
    exact hl.perm (List.Perm.refl _) ⟨a1, a2, a3, a4, a5⟩
  · rename_i h0
    rw [if_neg h0]
    rwa [has_dk, preD_dk] at hl
theorem lrem_any (h : PD S b x.dk w) (ok : x.Ok) (i : Bool) :
    Calls Try.prog 64 #[ptr b, .string (nmOf i)] w fun e w' => e = .returned (.int .i64 (x.E (x.has i))) ∧ Lft S b (x.rem i).dk w w' := by
  refine (remove_any h (nmOf i) (gn_of i) ok.st ok.lf (fs_len x)).mono ?_
  rintro e w' ⟨rfl, hl⟩
  have hE : preE x.dk (hasE x.dk (nmOf i)) = x.E (x.has i) := by rw [has_dk]; rfl
  refine ⟨by rw [hE], ?_⟩
  unfold remD at hl
  unfold Ld.rem
  rw [hE] at hl
  split at hl
  · rename_i h0
    rw [if_pos h0]
    have e1 : delF x.dk.fs (nmOf i) = (x.step.set i none).fs := del_dk x.step i
    rw [e1] at hl
    obtain ⟨a1, a2, a3, a4, a5⟩ := step_set x i none
    exact hl.perm (List.Perm.refl _) ⟨a1, a2, a3, a4, a5⟩
  · rename_i h0
    rw [if_neg h0]
    rwa [has_dk, preD_dk] at hl
theorem lren_any (h : PD S b x.dk w) (ok : x.Ok) :
    Calls Try.prog 45 #[ptr b, .string newN, .string walN] w fun e w' => e = .returned (.int .i64 (x.E (x.has true))) ∧ Lft S b x.ren.dk w w' := by
  refine (rename_any h newN walN gn_new gn_wal ok.st ok.lf (fs_len x)).mono ?_
  rintro e w' ⟨rfl, hl⟩
  have hE : preE x.dk (hasE x.dk newN) = x.E (x.has true) := by rw [show newN = nmOf true from rfl, has_dk]; rfl
  refine ⟨by rw [hE], ?_⟩
  unfold renD at hl
  unfold Ld.ren
  rw [hE] at hl
  split at hl
  · rename_i h0
    rw [if_pos h0]
    obtain ⟨p, hp⟩ := get_has h0
    have hf := find_dk x true
    rw [hp] at hf
    rw [show findF x.dk.fs newN = _ from hf] at hl
    simp only [Option.map_some] at hl
    have e1 : delF (delF x.dk.fs newN) walN = ((x.set true none).set false none).fs := by
      rw [show delF x.dk.fs newN = (x.set true none).fs from del_dk x true]
      exact del_dk (x.set true none) false
    rw [e1] at hl
    have hp' : x.nw = some p := hp
    refine hl.perm ?_ ⟨rfl, rfl, rfl, rfl, rfl⟩
    rw [hp']
    exact List.Perm.refl _
  · rename_i h0
    rw [if_neg h0]
    rwa [show newN = nmOf true from rfl, has_dk, preD_dk] at hl
theorem lcut_any (h : PD S b x.dk w) (ok : x.Ok) (i : Bool) (hi : (x.get i).isSome = true) (n : Nat) (hn : n ≤ (x.byt i).length) :
    Calls Try.prog 37 #[ptr b, .string (nmOf i), .int .i64 (n : Int)] w fun e w' => e = .returned (.int .i64 (x.E 0)) ∧ Lft S b (x.cut i n).dk w w' := by
  obtain ⟨p, hp⟩ := Option.isSome_iff_exists.1 hi
  have hb : x.byt i = p.1 := by unfold Ld.byt; rw [hp]
  have hd : x.dur i = p.2 := by unfold Ld.dur; rw [hp]
  have hf : findF x.dk.fs (nmOf i) = some ⟨nmOf i, p.1, p.2⟩ := by rw [show x.dk.fs = x.fs from rfl, find_dk, hp]; rfl
  have hu : (x.byt i).length ≤ x.used := by unfold Ld.used; cases i <;> omega
  have us := ok.us
  refine (dcut_any h (nmOf i) (gn_of i) hf n (by show n ≤ p.1.length; rw [← hb]; exact hn) (by show p.1.length ≤ _; rw [← hb]; omega) ok.st ok.lf).mono ?_
  rintro e w' ⟨rfl, hl⟩
  refine ⟨rfl, ?_⟩
  unfold cutD at hl
  unfold Ld.cut
  rw [preE_dk] at hl
  split at hl
  · rename_i h0
    rw [if_pos h0]
    have e1 : withF x.dk.fs (nmOf i) (fun f => ⟨f.name, f.data.take n, min f.dur n⟩) = (x.step.set i (some ((x.byt i).take n, min (x.dur i) n))).fs := by
      unfold withF
      rw [hf]
      simp only
      rw [hb, hd]
      exact upd_dk x.step i p (by rw [get_step]; exact hp) _ _
    rw [e1] at hl
    obtain ⟨a1, a2, a3, a4, a5⟩ := step_set x i (some ((x.byt i).take n, min (x.dur i) n))
    exact hl.perm (List.Perm.refl _) ⟨a1, a2, a3, a4, a5⟩
  · rename_i h0
    rw [if_neg h0]
    rwa [preD_dk] at hl
theorem lread_any (h : PD S b x.dk w) (i : Bool) (hi : (x.get i).isSome = true) (ho : x.off = false) :
    Calls Try.prog 35 #[ptr b, .string (nmOf i)] w fun e w' => e = .returned (.tuple #[str (x.byt i), .int .i64 0]) ∧ Below w.heap.size w w' := by
  refine (read_any h (nmOf i) (gn_of i)).mono ?_
  rintro e w' ⟨rfl, hb⟩
  obtain ⟨p, hp⟩ := Option.isSome_iff_exists.1 hi
  have hf : findF x.dk.fs (nmOf i) = some ⟨nmOf i, p.1, p.2⟩ := by rw [show x.dk.fs = x.fs from rfl, find_dk, hp]; rfl
  have hE : redE x.dk (nmOf i) = 0 := by
    unfold redE
    rw [show x.dk.off = x.off from rfl, ho, has_dk]
    unfold Ld.has
    rw [hp]; rfl
  refine ⟨?_, hb⟩
  have hS : redS x.dk (nmOf i) = ⟨(x.byt i).toArray⟩ := by
    unfold redS
    rw [if_pos hE, hf]
    unfold Ld.byt
    rw [hp]
  rw [hE, hS]
end
end Go.Proofs.Ytpiiknbjllgaoaa
