/-
  No cell of these rows narrows 'for every input' (looked for: loops, veiled, ifaces, maps, wideKeys, modest, calm, conditions, laid).
  DERIVED. THE GIVEN ROWS OF THIS SEAT. 6 by the template 'for every input the law returns true; each argument reads behind the call as it read before'; 0 by the template 'total and deterministic' (their statements: YtkdcfjaamahakaaTotals.lean).
  GIVEN WITH THE SEED: the statements are not yours to turn. If you find one false, say at which input.
  Laid BY PROGRAM, IN A SANDBOX (cutbox-rows.mjs): the forced cells as the released guide's own fill.sh prints them over the translation a412b8eb6a4bcfc9… (all of the seat's roots in one cut). By AI agents, Wed Nov 11 2026. No macro, syntax, notation, axiom, sorry.
-/
import Derived.Test.YtkdcfjaamahakaaChecked
import GoSem.Claim
import GoSem.ClaimJoined
import GoSem.ClaimMapViews
import Derived.JoinedTies
import Derived.KernelRfl
namespace Go.Proofs.Ytkdcfjaamahakaa
/- THE CELL 'sum', in the pinned program and in every row, IS THE sha256 OF THE DUMP (.gsa) THAT YtkdcfjaamahakaaProg.lean LOADS. Nothing in Lean hashes anything: it is a label: what it is worth is what the hold of that sum in a sandbox is worth. -/
noncomputable def Try.pinned : Pinned := { name := "ytkdcfjaamahakaa", sum := "a412b8eb6a4bcfc96ec0a919067a2a63d1a5979635657ba3d4dba775f308afc0", checked := Try.checked }
namespace Rows
def none {H : Type} : Left H := { results := [], args := [] }

/-- 'newellaw03.MoladTells': WHATEVER THE INPUT: true; the input reads as it did. -/
def moladTellsSpec : ChangeSpec := { name := "moladTells", fn := fun _ => fun
  | [d] => { results := [.lit (.bool true)], args := [d] }
  | _ => none }
def moladTellsRow : OpenClaim := { program := "ytkdcfjaamahakaa", sum := "a412b8eb6a4bcfc96ec0a919067a2a63d1a5979635657ba3d4dba775f308afc0", func := "newel/newellaw03.MoladTells", spec := "moladTells", unfollowed := true, recurses := true, apart := false }
def MoladTellsSaid : Prop := moladTellsRow.holds Try.pinned (OpenSpec.ofChange moladTellsSpec)

/-- ITS FALSE NEIGHBOUR: 'it returns false'. Refute it at one input. -/
def moladTellsWrong : ChangeSpec := { name := "moladTells", fn := fun _ => fun
  | [d] => { results := [.lit (.bool false)], args := [d] }
  | _ => none }
def MoladTellsWrongFalsely : Prop := moladTellsRow.holds Try.pinned (OpenSpec.ofChange moladTellsWrong)

/-- 'newellaw03.MoladYears': WHATEVER THE INPUT: true; the input reads as it did. -/
def moladYearsSpec : ChangeSpec := { name := "moladYears", fn := fun _ => fun
  | [d] => { results := [.lit (.bool true)], args := [d] }
  | _ => none }
def moladYearsRow : OpenClaim := { program := "ytkdcfjaamahakaa", sum := "a412b8eb6a4bcfc96ec0a919067a2a63d1a5979635657ba3d4dba775f308afc0", func := "newel/newellaw03.MoladYears", spec := "moladYears", unfollowed := true, recurses := true, apart := false }
def MoladYearsSaid : Prop := moladYearsRow.holds Try.pinned (OpenSpec.ofChange moladYearsSpec)

/-- ITS FALSE NEIGHBOUR: 'it returns false'. Refute it at one input. -/
def moladYearsWrong : ChangeSpec := { name := "moladYears", fn := fun _ => fun
  | [d] => { results := [.lit (.bool false)], args := [d] }
  | _ => none }
def MoladYearsWrongFalsely : Prop := moladYearsRow.holds Try.pinned (OpenSpec.ofChange moladYearsWrong)

/-- 'newellaw03.MoladLens': WHATEVER THE INPUT: true; the input reads as it did. -/
def moladLensSpec : ChangeSpec := { name := "moladLens", fn := fun _ => fun
  | [d] => { results := [.lit (.bool true)], args := [d] }
  | _ => none }
def moladLensRow : OpenClaim := { program := "ytkdcfjaamahakaa", sum := "a412b8eb6a4bcfc96ec0a919067a2a63d1a5979635657ba3d4dba775f308afc0", func := "newel/newellaw03.MoladLens", spec := "moladLens", unfollowed := true, recurses := true, apart := false }
def MoladLensSaid : Prop := moladLensRow.holds Try.pinned (OpenSpec.ofChange moladLensSpec)

/-- ITS FALSE NEIGHBOUR: 'it returns false'. Refute it at one input. -/
def moladLensWrong : ChangeSpec := { name := "moladLens", fn := fun _ => fun
  | [d] => { results := [.lit (.bool false)], args := [d] }
  | _ => none }
def MoladLensWrongFalsely : Prop := moladLensRow.holds Try.pinned (OpenSpec.ofChange moladLensWrong)

/-- 'newellaw03.MoladStarts': WHATEVER THE INPUT: true; the input reads as it did. -/
def moladStartsSpec : ChangeSpec := { name := "moladStarts", fn := fun _ => fun
  | [d] => { results := [.lit (.bool true)], args := [d] }
  | _ => none }
def moladStartsRow : OpenClaim := { program := "ytkdcfjaamahakaa", sum := "a412b8eb6a4bcfc96ec0a919067a2a63d1a5979635657ba3d4dba775f308afc0", func := "newel/newellaw03.MoladStarts", spec := "moladStarts", unfollowed := true, recurses := true, apart := false }
def MoladStartsSaid : Prop := moladStartsRow.holds Try.pinned (OpenSpec.ofChange moladStartsSpec)

/-- ITS FALSE NEIGHBOUR: 'it returns false'. Refute it at one input. -/
def moladStartsWrong : ChangeSpec := { name := "moladStarts", fn := fun _ => fun
  | [d] => { results := [.lit (.bool false)], args := [d] }
  | _ => none }
def MoladStartsWrongFalsely : Prop := moladStartsRow.holds Try.pinned (OpenSpec.ofChange moladStartsWrong)

/-- 'newellaw03.MoladRound': WHATEVER THE INPUT: true; the input reads as it did. -/
def moladRoundSpec : ChangeSpec := { name := "moladRound", fn := fun _ => fun
  | [d] => { results := [.lit (.bool true)], args := [d] }
  | _ => none }
def moladRoundRow : OpenClaim := { program := "ytkdcfjaamahakaa", sum := "a412b8eb6a4bcfc96ec0a919067a2a63d1a5979635657ba3d4dba775f308afc0", func := "newel/newellaw03.MoladRound", spec := "moladRound", unfollowed := true, recurses := true, apart := false }
def MoladRoundSaid : Prop := moladRoundRow.holds Try.pinned (OpenSpec.ofChange moladRoundSpec)

/-- ITS FALSE NEIGHBOUR: 'it returns false'. Refute it at one input. -/
def moladRoundWrong : ChangeSpec := { name := "moladRound", fn := fun _ => fun
  | [d] => { results := [.lit (.bool false)], args := [d] }
  | _ => none }
def MoladRoundWrongFalsely : Prop := moladRoundRow.holds Try.pinned (OpenSpec.ofChange moladRoundWrong)

/-- 'newellaw03.MoladNext': WHATEVER THE INPUT: true; the input reads as it did. -/
def moladNextSpec : ChangeSpec := { name := "moladNext", fn := fun _ => fun
  | [d] => { results := [.lit (.bool true)], args := [d] }
  | _ => none }
def moladNextRow : OpenClaim := { program := "ytkdcfjaamahakaa", sum := "a412b8eb6a4bcfc96ec0a919067a2a63d1a5979635657ba3d4dba775f308afc0", func := "newel/newellaw03.MoladNext", spec := "moladNext", unfollowed := true, recurses := true, apart := false }
def MoladNextSaid : Prop := moladNextRow.holds Try.pinned (OpenSpec.ofChange moladNextSpec)

/-- ITS FALSE NEIGHBOUR: 'it returns false'. Refute it at one input. -/
def moladNextWrong : ChangeSpec := { name := "moladNext", fn := fun _ => fun
  | [d] => { results := [.lit (.bool false)], args := [d] }
  | _ => none }
def MoladNextWrongFalsely : Prop := moladNextRow.holds Try.pinned (OpenSpec.ofChange moladNextWrong)

/- THE SECOND FORM. 'bulk': how many values and letters a reading holds, each counted each time it is reached (what is shared counts as often as it is met; a slice's spare places count too). A statement '..UptoSaid' is the law's where the arguments, and the package variables that the reading takes, are together of bulk at most 1048576: NARROWER than '..Said'. Prove '..Said' where nothing that the law and all that it calls make is longer than what came in: it says more and counts as full. Else prove '..UptoSaid'. A law counts once. -/
mutual
def uptoBulk {H : Type} : DataW H → Nat
  | .lit (.string bytes) => bytes.length + 1
  | .lit _ => 1
  | .nil => 1
  | .ptr d => uptoBulk d + 1
  | .slice elems spare => uptoBulkAll elems + uptoBulkAll spare + 1
  | .agg parts => uptoBulkAll parts + 1
  | .iface _ d => uptoBulk d + 1
  | .map entries => uptoBulkEntries entries + 1
  | .held _ => 1
def uptoBulkAll {H : Type} : List (DataW H) → Nat
  | [] => 0
  | d :: r => uptoBulk d + uptoBulkAll r
def uptoBulkEntries {H : Type} : List (Lit × DataW H) → Nat
  | [] => 0
  | x :: r => uptoBulkEntry x + uptoBulkEntries r
def uptoBulkEntry {H : Type} : Lit × DataW H → Nat
  | (.string bytes, d) => bytes.length + uptoBulk d + 1
  | (_, d) => uptoBulk d + 1
 end
def uptoSmall : (H : Type) → List (DataW H) → Bool := fun _ ds => decide (uptoBulkAll ds ≤ 1048576)
def OpenSpec.upto (s : _root_.Go.ChangeSpec) : _root_.Go.OpenSpec := { _root_.Go.OpenSpec.ofChange s with cond := some uptoSmall }

/-- 'newellaw03.MoladTells', WHERE WHAT IT READS IS OF BULK AT MOST 1048576: true; the input reads as it did. -/
def moladTellsUptoRow : OpenClaim := { program := "ytkdcfjaamahakaa", sum := "a412b8eb6a4bcfc96ec0a919067a2a63d1a5979635657ba3d4dba775f308afc0", func := "newel/newellaw03.MoladTells", spec := "moladTells", unfollowed := true, recurses := true, apart := false, narrowed := true }
def MoladTellsUptoSaid : Prop := moladTellsUptoRow.holds Try.pinned (OpenSpec.upto moladTellsSpec)

/-- 'newellaw03.MoladYears', WHERE WHAT IT READS IS OF BULK AT MOST 1048576: true; the input reads as it did. -/
def moladYearsUptoRow : OpenClaim := { program := "ytkdcfjaamahakaa", sum := "a412b8eb6a4bcfc96ec0a919067a2a63d1a5979635657ba3d4dba775f308afc0", func := "newel/newellaw03.MoladYears", spec := "moladYears", unfollowed := true, recurses := true, apart := false, narrowed := true }
def MoladYearsUptoSaid : Prop := moladYearsUptoRow.holds Try.pinned (OpenSpec.upto moladYearsSpec)

/-- 'newellaw03.MoladLens', WHERE WHAT IT READS IS OF BULK AT MOST 1048576: true; the input reads as it did. -/
def moladLensUptoRow : OpenClaim := { program := "ytkdcfjaamahakaa", sum := "a412b8eb6a4bcfc96ec0a919067a2a63d1a5979635657ba3d4dba775f308afc0", func := "newel/newellaw03.MoladLens", spec := "moladLens", unfollowed := true, recurses := true, apart := false, narrowed := true }
def MoladLensUptoSaid : Prop := moladLensUptoRow.holds Try.pinned (OpenSpec.upto moladLensSpec)

/-- 'newellaw03.MoladStarts', WHERE WHAT IT READS IS OF BULK AT MOST 1048576: true; the input reads as it did. -/
def moladStartsUptoRow : OpenClaim := { program := "ytkdcfjaamahakaa", sum := "a412b8eb6a4bcfc96ec0a919067a2a63d1a5979635657ba3d4dba775f308afc0", func := "newel/newellaw03.MoladStarts", spec := "moladStarts", unfollowed := true, recurses := true, apart := false, narrowed := true }
def MoladStartsUptoSaid : Prop := moladStartsUptoRow.holds Try.pinned (OpenSpec.upto moladStartsSpec)

/-- 'newellaw03.MoladRound', WHERE WHAT IT READS IS OF BULK AT MOST 1048576: true; the input reads as it did. -/
def moladRoundUptoRow : OpenClaim := { program := "ytkdcfjaamahakaa", sum := "a412b8eb6a4bcfc96ec0a919067a2a63d1a5979635657ba3d4dba775f308afc0", func := "newel/newellaw03.MoladRound", spec := "moladRound", unfollowed := true, recurses := true, apart := false, narrowed := true }
def MoladRoundUptoSaid : Prop := moladRoundUptoRow.holds Try.pinned (OpenSpec.upto moladRoundSpec)

/-- 'newellaw03.MoladNext', WHERE WHAT IT READS IS OF BULK AT MOST 1048576: true; the input reads as it did. -/
def moladNextUptoRow : OpenClaim := { program := "ytkdcfjaamahakaa", sum := "a412b8eb6a4bcfc96ec0a919067a2a63d1a5979635657ba3d4dba775f308afc0", func := "newel/newellaw03.MoladNext", spec := "moladNext", unfollowed := true, recurses := true, apart := false, narrowed := true }
def MoladNextUptoSaid : Prop := moladNextUptoRow.holds Try.pinned (OpenSpec.upto moladNextSpec)

end Rows
end Go.Proofs.Ytkdcfjaamahakaa
