/-
  No cell of these rows narrows 'for every input' (looked for: loops, veiled, ifaces, maps, wideKeys, modest, calm, conditions, laid).
  DERIVED. THE GIVEN ROWS OF THIS SEAT. 7 by the template 'for every input the law returns true; each argument reads behind the call as it read before'; 0 by the template 'total and deterministic' (their statements: YtflpceaaelampaaTotals.lean).
  GIVEN WITH THE SEED: the statements are not yours to turn. If you find one false, say at which input.
  Laid BY PROGRAM, IN A SANDBOX (cutbox-rows.mjs): the forced cells as the released guide's own fill.sh prints them over the translation b9e282cb68608d22… (all of the seat's roots in one cut). By AI agents, Wed Nov 11 2026. No macro, syntax, notation, axiom, sorry.
-/
import Derived.Test.YtflpceaaelampaaChecked
import GoSem.Claim
import GoSem.ClaimJoined
import GoSem.ClaimMapViews
import Derived.JoinedTies
import Derived.KernelRfl
namespace Go.Proofs.Ytflpceaaelampaa
/- THE CELL 'sum', in the pinned program and in every row, IS THE sha256 OF THE DUMP (.gsa) THAT YtflpceaaelampaaProg.lean LOADS. Nothing in Lean hashes anything: it is a label: what it is worth is what the hold of that sum in a sandbox is worth. -/
noncomputable def Try.pinned : Pinned := { name := "ytflpceaaelampaa", sum := "b9e282cb68608d226f6a1a0a7b907bf787da4a7a34e4b1bb1ca854936328d44d", checked := Try.checked }
namespace Rows
def none {H : Type} : Left H := { results := [], args := [] }

/-- 'fingerpostlaw05.RecordChecks': WHATEVER THE INPUT: true; the input reads as it did. -/
def recordChecksSpec : ChangeSpec := { name := "recordChecks", fn := fun _ => fun
  | [d1, d2] => { results := [.lit (.bool true)], args := [d1, d2] }
  | _ => none }
def recordChecksRow : OpenClaim := { program := "ytflpceaaelampaa", sum := "b9e282cb68608d226f6a1a0a7b907bf787da4a7a34e4b1bb1ca854936328d44d", func := "fingerpost/fingerpostlaw05.RecordChecks", spec := "recordChecks", unfollowed := true, recurses := true, apart := false }
def RecordChecksSaid : Prop := recordChecksRow.holds Try.pinned (OpenSpec.ofChange recordChecksSpec)

/-- ITS FALSE NEIGHBOUR: 'it returns false'. Refute it at one input. -/
def recordChecksWrong : ChangeSpec := { name := "recordChecks", fn := fun _ => fun
  | [d1, d2] => { results := [.lit (.bool false)], args := [d1, d2] }
  | _ => none }
def RecordChecksWrongFalsely : Prop := recordChecksRow.holds Try.pinned (OpenSpec.ofChange recordChecksWrong)

/-- 'fingerpostlaw05.RecordReads': WHATEVER THE INPUT: true; the input reads as it did. -/
def recordReadsSpec : ChangeSpec := { name := "recordReads", fn := fun _ => fun
  | [d1, d2] => { results := [.lit (.bool true)], args := [d1, d2] }
  | _ => none }
def recordReadsRow : OpenClaim := { program := "ytflpceaaelampaa", sum := "b9e282cb68608d226f6a1a0a7b907bf787da4a7a34e4b1bb1ca854936328d44d", func := "fingerpost/fingerpostlaw05.RecordReads", spec := "recordReads", unfollowed := true, recurses := true, apart := false }
def RecordReadsSaid : Prop := recordReadsRow.holds Try.pinned (OpenSpec.ofChange recordReadsSpec)

/-- ITS FALSE NEIGHBOUR: 'it returns false'. Refute it at one input. -/
def recordReadsWrong : ChangeSpec := { name := "recordReads", fn := fun _ => fun
  | [d1, d2] => { results := [.lit (.bool false)], args := [d1, d2] }
  | _ => none }
def RecordReadsWrongFalsely : Prop := recordReadsRow.holds Try.pinned (OpenSpec.ofChange recordReadsWrong)

/-- 'fingerpostlaw05.RecordWrites': WHATEVER THE INPUT: true; the input reads as it did. -/
def recordWritesSpec : ChangeSpec := { name := "recordWrites", fn := fun _ => fun
  | [d1, d2] => { results := [.lit (.bool true)], args := [d1, d2] }
  | _ => none }
def recordWritesRow : OpenClaim := { program := "ytflpceaaelampaa", sum := "b9e282cb68608d226f6a1a0a7b907bf787da4a7a34e4b1bb1ca854936328d44d", func := "fingerpost/fingerpostlaw05.RecordWrites", spec := "recordWrites", unfollowed := true, recurses := true, apart := false }
def RecordWritesSaid : Prop := recordWritesRow.holds Try.pinned (OpenSpec.ofChange recordWritesSpec)

/-- ITS FALSE NEIGHBOUR: 'it returns false'. Refute it at one input. -/
def recordWritesWrong : ChangeSpec := { name := "recordWrites", fn := fun _ => fun
  | [d1, d2] => { results := [.lit (.bool false)], args := [d1, d2] }
  | _ => none }
def RecordWritesWrongFalsely : Prop := recordWritesRow.holds Try.pinned (OpenSpec.ofChange recordWritesWrong)

/-- 'fingerpostlaw05.RecordBack': WHATEVER THE INPUT: true; the input reads as it did. -/
def recordBackSpec : ChangeSpec := { name := "recordBack", fn := fun _ => fun
  | [d1, d2] => { results := [.lit (.bool true)], args := [d1, d2] }
  | _ => none }
def recordBackRow : OpenClaim := { program := "ytflpceaaelampaa", sum := "b9e282cb68608d226f6a1a0a7b907bf787da4a7a34e4b1bb1ca854936328d44d", func := "fingerpost/fingerpostlaw05.RecordBack", spec := "recordBack", unfollowed := true, recurses := true, apart := false }
def RecordBackSaid : Prop := recordBackRow.holds Try.pinned (OpenSpec.ofChange recordBackSpec)

/-- ITS FALSE NEIGHBOUR: 'it returns false'. Refute it at one input. -/
def recordBackWrong : ChangeSpec := { name := "recordBack", fn := fun _ => fun
  | [d1, d2] => { results := [.lit (.bool false)], args := [d1, d2] }
  | _ => none }
def RecordBackWrongFalsely : Prop := recordBackRow.holds Try.pinned (OpenSpec.ofChange recordBackWrong)

/-- 'fingerpostlaw05.RecordAlike': WHATEVER THE INPUT: true; the input reads as it did. -/
def recordAlikeSpec : ChangeSpec := { name := "recordAlike", fn := fun _ => fun
  | [d1, d2] => { results := [.lit (.bool true)], args := [d1, d2] }
  | _ => none }
def recordAlikeRow : OpenClaim := { program := "ytflpceaaelampaa", sum := "b9e282cb68608d226f6a1a0a7b907bf787da4a7a34e4b1bb1ca854936328d44d", func := "fingerpost/fingerpostlaw05.RecordAlike", spec := "recordAlike", unfollowed := true, recurses := true, apart := false }
def RecordAlikeSaid : Prop := recordAlikeRow.holds Try.pinned (OpenSpec.ofChange recordAlikeSpec)

/-- ITS FALSE NEIGHBOUR: 'it returns false'. Refute it at one input. -/
def recordAlikeWrong : ChangeSpec := { name := "recordAlike", fn := fun _ => fun
  | [d1, d2] => { results := [.lit (.bool false)], args := [d1, d2] }
  | _ => none }
def RecordAlikeWrongFalsely : Prop := recordAlikeRow.holds Try.pinned (OpenSpec.ofChange recordAlikeWrong)

/-- 'fingerpostlaw05.RecordSoas': WHATEVER THE INPUT: true; the input reads as it did. -/
def recordSoasSpec : ChangeSpec := { name := "recordSoas", fn := fun _ => fun
  | [d1, d2] => { results := [.lit (.bool true)], args := [d1, d2] }
  | _ => none }
def recordSoasRow : OpenClaim := { program := "ytflpceaaelampaa", sum := "b9e282cb68608d226f6a1a0a7b907bf787da4a7a34e4b1bb1ca854936328d44d", func := "fingerpost/fingerpostlaw05.RecordSoas", spec := "recordSoas", unfollowed := true, recurses := true, apart := false }
def RecordSoasSaid : Prop := recordSoasRow.holds Try.pinned (OpenSpec.ofChange recordSoasSpec)

/-- ITS FALSE NEIGHBOUR: 'it returns false'. Refute it at one input. -/
def recordSoasWrong : ChangeSpec := { name := "recordSoas", fn := fun _ => fun
  | [d1, d2] => { results := [.lit (.bool false)], args := [d1, d2] }
  | _ => none }
def RecordSoasWrongFalsely : Prop := recordSoasRow.holds Try.pinned (OpenSpec.ofChange recordSoasWrong)

/-- 'fingerpostlaw05.RecordNil': WHATEVER THE INPUT: true; the input reads as it did. -/
def recordNilSpec : ChangeSpec := { name := "recordNil", fn := fun _ => fun
  | [d] => { results := [.lit (.bool true)], args := [d] }
  | _ => none }
def recordNilRow : OpenClaim := { program := "ytflpceaaelampaa", sum := "b9e282cb68608d226f6a1a0a7b907bf787da4a7a34e4b1bb1ca854936328d44d", func := "fingerpost/fingerpostlaw05.RecordNil", spec := "recordNil", unfollowed := true, recurses := true, apart := false }
def RecordNilSaid : Prop := recordNilRow.holds Try.pinned (OpenSpec.ofChange recordNilSpec)

/-- ITS FALSE NEIGHBOUR: 'it returns false'. Refute it at one input. -/
def recordNilWrong : ChangeSpec := { name := "recordNil", fn := fun _ => fun
  | [d] => { results := [.lit (.bool false)], args := [d] }
  | _ => none }
def RecordNilWrongFalsely : Prop := recordNilRow.holds Try.pinned (OpenSpec.ofChange recordNilWrong)

/- THE SECOND FORM. 'bulk': how many values and letters a reading holds, each counted each time it is reached (what is shared counts as often as it is met; a slice's spare places count too). A statement '..UptoSaid' is the law's where the arguments, and the package variables that the reading takes, are together of bulk at most 1048576: NARROWER than '..Said'. Prove '..Said' where nothing that the law and all that it calls make is longer than what came in: it says more and counts as full. Else prove '..UptoSaid'. A law counts once. -/
mutual
def uptoBulk {H : Type} : DataW H → Nat
  | .lit (.string bytes) => bytes.length + 1
  | .lit _ => 1
  | .nil => 1
  | .ptr d => uptoBulk d + 1
  | .slice elems spare => uptoBulkAll elems + uptoBulkAll spare + 1
  | .agg parts => uptoBulkAll parts + 1
  | .iface _ d => uptoBulk d + 1
  | .map entries => uptoBulkEntries entries + 1
  | .held _ => 1
def uptoBulkAll {H : Type} : List (DataW H) → Nat
  | [] => 0
  | d :: r => uptoBulk d + uptoBulkAll r
def uptoBulkEntries {H : Type} : List (Lit × DataW H) → Nat
  | [] => 0
  | x :: r => uptoBulkEntry x + uptoBulkEntries r
def uptoBulkEntry {H : Type} : Lit × DataW H → Nat
  | (.string bytes, d) => bytes.length + uptoBulk d + 1
  | (_, d) => uptoBulk d + 1
 end
def uptoSmall : (H : Type) → List (DataW H) → Bool := fun _ ds => decide (uptoBulkAll ds ≤ 1048576)
def OpenSpec.upto (s : _root_.Go.ChangeSpec) : _root_.Go.OpenSpec := { _root_.Go.OpenSpec.ofChange s with cond := some uptoSmall }

/-- 'fingerpostlaw05.RecordChecks', WHERE WHAT IT READS IS OF BULK AT MOST 1048576: true; the input reads as it did. -/
def recordChecksUptoRow : OpenClaim := { program := "ytflpceaaelampaa", sum := "b9e282cb68608d226f6a1a0a7b907bf787da4a7a34e4b1bb1ca854936328d44d", func := "fingerpost/fingerpostlaw05.RecordChecks", spec := "recordChecks", unfollowed := true, recurses := true, apart := false, narrowed := true }
def RecordChecksUptoSaid : Prop := recordChecksUptoRow.holds Try.pinned (OpenSpec.upto recordChecksSpec)

/-- 'fingerpostlaw05.RecordReads', WHERE WHAT IT READS IS OF BULK AT MOST 1048576: true; the input reads as it did. -/
def recordReadsUptoRow : OpenClaim := { program := "ytflpceaaelampaa", sum := "b9e282cb68608d226f6a1a0a7b907bf787da4a7a34e4b1bb1ca854936328d44d", func := "fingerpost/fingerpostlaw05.RecordReads", spec := "recordReads", unfollowed := true, recurses := true, apart := false, narrowed := true }
def RecordReadsUptoSaid : Prop := recordReadsUptoRow.holds Try.pinned (OpenSpec.upto recordReadsSpec)

/-- 'fingerpostlaw05.RecordWrites', WHERE WHAT IT READS IS OF BULK AT MOST 1048576: true; the input reads as it did. -/
def recordWritesUptoRow : OpenClaim := { program := "ytflpceaaelampaa", sum := "b9e282cb68608d226f6a1a0a7b907bf787da4a7a34e4b1bb1ca854936328d44d", func := "fingerpost/fingerpostlaw05.RecordWrites", spec := "recordWrites", unfollowed := true, recurses := true, apart := false, narrowed := true }
def RecordWritesUptoSaid : Prop := recordWritesUptoRow.holds Try.pinned (OpenSpec.upto recordWritesSpec)

/-- 'fingerpostlaw05.RecordBack', WHERE WHAT IT READS IS OF BULK AT MOST 1048576: true; the input reads as it did. -/
def recordBackUptoRow : OpenClaim := { program := "ytflpceaaelampaa", sum := "b9e282cb68608d226f6a1a0a7b907bf787da4a7a34e4b1bb1ca854936328d44d", func := "fingerpost/fingerpostlaw05.RecordBack", spec := "recordBack", unfollowed := true, recurses := true, apart := false, narrowed := true }
def RecordBackUptoSaid : Prop := recordBackUptoRow.holds Try.pinned (OpenSpec.upto recordBackSpec)

/-- 'fingerpostlaw05.RecordAlike', WHERE WHAT IT READS IS OF BULK AT MOST 1048576: true; the input reads as it did. -/
def recordAlikeUptoRow : OpenClaim := { program := "ytflpceaaelampaa", sum := "b9e282cb68608d226f6a1a0a7b907bf787da4a7a34e4b1bb1ca854936328d44d", func := "fingerpost/fingerpostlaw05.RecordAlike", spec := "recordAlike", unfollowed := true, recurses := true, apart := false, narrowed := true }
def RecordAlikeUptoSaid : Prop := recordAlikeUptoRow.holds Try.pinned (OpenSpec.upto recordAlikeSpec)

/-- 'fingerpostlaw05.RecordSoas', WHERE WHAT IT READS IS OF BULK AT MOST 1048576: true; the input reads as it did. -/
def recordSoasUptoRow : OpenClaim := { program := "ytflpceaaelampaa", sum := "b9e282cb68608d226f6a1a0a7b907bf787da4a7a34e4b1bb1ca854936328d44d", func := "fingerpost/fingerpostlaw05.RecordSoas", spec := "recordSoas", unfollowed := true, recurses := true, apart := false, narrowed := true }
def RecordSoasUptoSaid : Prop := recordSoasUptoRow.holds Try.pinned (OpenSpec.upto recordSoasSpec)

/-- 'fingerpostlaw05.RecordNil', WHERE WHAT IT READS IS OF BULK AT MOST 1048576: true; the input reads as it did. -/
def recordNilUptoRow : OpenClaim := { program := "ytflpceaaelampaa", sum := "b9e282cb68608d226f6a1a0a7b907bf787da4a7a34e4b1bb1ca854936328d44d", func := "fingerpost/fingerpostlaw05.RecordNil", spec := "recordNil", unfollowed := true, recurses := true, apart := false, narrowed := true }
def RecordNilUptoSaid : Prop := recordNilUptoRow.holds Try.pinned (OpenSpec.upto recordNilSpec)

end Rows
end Go.Proofs.Ytflpceaaelampaa
