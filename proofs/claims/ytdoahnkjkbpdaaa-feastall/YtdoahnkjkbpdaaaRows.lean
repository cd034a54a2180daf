/-
  No cell of these rows narrows 'for every input' (looked for: loops, veiled, ifaces, maps, wideKeys, modest, calm, conditions, laid).
  DERIVED. THE GIVEN ROWS OF THIS SEAT. 7 by the template 'for every input the law returns true; each argument reads behind the call as it read before'; 0 by the template 'total and deterministic' (their statements: YtdoahnkjkbpdaaaTotals.lean).
  GIVEN WITH THE SEED: the statements are not yours to turn. If you find one false, say at which input.
  Laid BY PROGRAM, IN A SANDBOX (cutbox-rows.mjs): the forced cells as the released guide's own fill.sh prints them over the translation abb045ce5436b56c… (all of the seat's roots in one cut). By AI agents, Wed Nov 11 2026. No macro, syntax, notation, axiom, sorry.
-/
import Derived.Test.YtdoahnkjkbpdaaaChecked
import GoSem.Claim
import GoSem.ClaimJoined
import GoSem.ClaimMapViews
import Derived.JoinedTies
import Derived.KernelRfl
namespace Go.Proofs.Ytdoahnkjkbpdaaa
/- THE CELL 'sum', in the pinned program and in every row, IS THE sha256 OF THE DUMP (.gsa) THAT YtdoahnkjkbpdaaaProg.lean LOADS. Nothing in Lean hashes anything: it is a label: what it is worth is what the hold of that sum in a sandbox is worth. -/
noncomputable def Try.pinned : Pinned := { name := "ytdoahnkjkbpdaaa", sum := "abb045ce5436b56c121cfbefc337769e9480d98299c5941f7291ec29b77dd6a7", checked := Try.checked }
namespace Rows
def none {H : Type} : Left H := { results := [], args := [] }

/-- 'newellaw05.FeastTells': WHATEVER THE INPUT: true; the input reads as it did. -/
def feastTellsSpec : ChangeSpec := { name := "feastTells", fn := fun _ => fun
  | [d1, d2] => { results := [.lit (.bool true)], args := [d1, d2] }
  | _ => none }
def feastTellsRow : OpenClaim := { program := "ytdoahnkjkbpdaaa", sum := "abb045ce5436b56c121cfbefc337769e9480d98299c5941f7291ec29b77dd6a7", func := "newel/newellaw05.FeastTells", spec := "feastTells", unfollowed := true, recurses := true, plainKeys := false, apart := false }
def FeastTellsSaid : Prop := feastTellsRow.holds Try.pinned (OpenSpec.ofChange feastTellsSpec)

/-- ITS FALSE NEIGHBOUR: 'it returns false'. Refute it at one input. -/
def feastTellsWrong : ChangeSpec := { name := "feastTells", fn := fun _ => fun
  | [d1, d2] => { results := [.lit (.bool false)], args := [d1, d2] }
  | _ => none }
def FeastTellsWrongFalsely : Prop := feastTellsRow.holds Try.pinned (OpenSpec.ofChange feastTellsWrong)

/-- 'newellaw05.FeastLists': WHATEVER THE INPUT: true; the input reads as it did. -/
def feastListsSpec : ChangeSpec := { name := "feastLists", fn := fun _ => fun
  | [d1, d2] => { results := [.lit (.bool true)], args := [d1, d2] }
  | _ => none }
def feastListsRow : OpenClaim := { program := "ytdoahnkjkbpdaaa", sum := "abb045ce5436b56c121cfbefc337769e9480d98299c5941f7291ec29b77dd6a7", func := "newel/newellaw05.FeastLists", spec := "feastLists", unfollowed := true, recurses := true, plainKeys := false, apart := false }
def FeastListsSaid : Prop := feastListsRow.holds Try.pinned (OpenSpec.ofChange feastListsSpec)

/-- ITS FALSE NEIGHBOUR: 'it returns false'. Refute it at one input. -/
def feastListsWrong : ChangeSpec := { name := "feastLists", fn := fun _ => fun
  | [d1, d2] => { results := [.lit (.bool false)], args := [d1, d2] }
  | _ => none }
def FeastListsWrongFalsely : Prop := feastListsRow.holds Try.pinned (OpenSpec.ofChange feastListsWrong)

/-- 'newellaw05.FeastRows': WHATEVER THE INPUT: true; the input reads as it did. -/
def feastRowsSpec : ChangeSpec := { name := "feastRows", fn := fun _ => fun
  | [d1, d2] => { results := [.lit (.bool true)], args := [d1, d2] }
  | _ => none }
def feastRowsRow : OpenClaim := { program := "ytdoahnkjkbpdaaa", sum := "abb045ce5436b56c121cfbefc337769e9480d98299c5941f7291ec29b77dd6a7", func := "newel/newellaw05.FeastRows", spec := "feastRows", unfollowed := true, recurses := true, plainKeys := false, apart := false }
def FeastRowsSaid : Prop := feastRowsRow.holds Try.pinned (OpenSpec.ofChange feastRowsSpec)

/-- ITS FALSE NEIGHBOUR: 'it returns false'. Refute it at one input. -/
def feastRowsWrong : ChangeSpec := { name := "feastRows", fn := fun _ => fun
  | [d1, d2] => { results := [.lit (.bool false)], args := [d1, d2] }
  | _ => none }
def FeastRowsWrongFalsely : Prop := feastRowsRow.holds Try.pinned (OpenSpec.ofChange feastRowsWrong)

/-- 'newellaw05.FeastTouch': WHATEVER THE INPUT: true; the input reads as it did. -/
def feastTouchSpec : ChangeSpec := { name := "feastTouch", fn := fun _ => fun
  | [d1, d2] => { results := [.lit (.bool true)], args := [d1, d2] }
  | _ => none }
def feastTouchRow : OpenClaim := { program := "ytdoahnkjkbpdaaa", sum := "abb045ce5436b56c121cfbefc337769e9480d98299c5941f7291ec29b77dd6a7", func := "newel/newellaw05.FeastTouch", spec := "feastTouch", unfollowed := true, recurses := true, plainKeys := false, apart := false }
def FeastTouchSaid : Prop := feastTouchRow.holds Try.pinned (OpenSpec.ofChange feastTouchSpec)

/-- ITS FALSE NEIGHBOUR: 'it returns false'. Refute it at one input. -/
def feastTouchWrong : ChangeSpec := { name := "feastTouch", fn := fun _ => fun
  | [d1, d2] => { results := [.lit (.bool false)], args := [d1, d2] }
  | _ => none }
def FeastTouchWrongFalsely : Prop := feastTouchRow.holds Try.pinned (OpenSpec.ofChange feastTouchWrong)

/-- 'newellaw05.FeastAbroad': WHATEVER THE INPUT: true; the input reads as it did. -/
def feastAbroadSpec : ChangeSpec := { name := "feastAbroad", fn := fun _ => fun
  | [d] => { results := [.lit (.bool true)], args := [d] }
  | _ => none }
def feastAbroadRow : OpenClaim := { program := "ytdoahnkjkbpdaaa", sum := "abb045ce5436b56c121cfbefc337769e9480d98299c5941f7291ec29b77dd6a7", func := "newel/newellaw05.FeastAbroad", spec := "feastAbroad", unfollowed := true, recurses := true, plainKeys := false, apart := false }
def FeastAbroadSaid : Prop := feastAbroadRow.holds Try.pinned (OpenSpec.ofChange feastAbroadSpec)

/-- ITS FALSE NEIGHBOUR: 'it returns false'. Refute it at one input. -/
def feastAbroadWrong : ChangeSpec := { name := "feastAbroad", fn := fun _ => fun
  | [d] => { results := [.lit (.bool false)], args := [d] }
  | _ => none }
def FeastAbroadWrongFalsely : Prop := feastAbroadRow.holds Try.pinned (OpenSpec.ofChange feastAbroadWrong)

/-- 'newellaw05.FeastAll': WHATEVER THE INPUT: true; the input reads as it did. -/
def feastAllSpec : ChangeSpec := { name := "feastAll", fn := fun _ => fun
  | [d1, d2] => { results := [.lit (.bool true)], args := [d1, d2] }
  | _ => none }
def feastAllRow : OpenClaim := { program := "ytdoahnkjkbpdaaa", sum := "abb045ce5436b56c121cfbefc337769e9480d98299c5941f7291ec29b77dd6a7", func := "newel/newellaw05.FeastAll", spec := "feastAll", unfollowed := true, recurses := true, plainKeys := false, apart := false }
def FeastAllSaid : Prop := feastAllRow.holds Try.pinned (OpenSpec.ofChange feastAllSpec)

/-- ITS FALSE NEIGHBOUR: 'it returns false'. Refute it at one input. -/
def feastAllWrong : ChangeSpec := { name := "feastAll", fn := fun _ => fun
  | [d1, d2] => { results := [.lit (.bool false)], args := [d1, d2] }
  | _ => none }
def FeastAllWrongFalsely : Prop := feastAllRow.holds Try.pinned (OpenSpec.ofChange feastAllWrong)

/-- 'newellaw05.FeastWeekdays': WHATEVER THE INPUT: true; the input reads as it did. -/
def feastWeekdaysSpec : ChangeSpec := { name := "feastWeekdays", fn := fun _ => fun
  | [d] => { results := [.lit (.bool true)], args := [d] }
  | _ => none }
def feastWeekdaysRow : OpenClaim := { program := "ytdoahnkjkbpdaaa", sum := "abb045ce5436b56c121cfbefc337769e9480d98299c5941f7291ec29b77dd6a7", func := "newel/newellaw05.FeastWeekdays", spec := "feastWeekdays", unfollowed := true, recurses := true, plainKeys := false, apart := false }
def FeastWeekdaysSaid : Prop := feastWeekdaysRow.holds Try.pinned (OpenSpec.ofChange feastWeekdaysSpec)

/-- ITS FALSE NEIGHBOUR: 'it returns false'. Refute it at one input. -/
def feastWeekdaysWrong : ChangeSpec := { name := "feastWeekdays", fn := fun _ => fun
  | [d] => { results := [.lit (.bool false)], args := [d] }
  | _ => none }
def FeastWeekdaysWrongFalsely : Prop := feastWeekdaysRow.holds Try.pinned (OpenSpec.ofChange feastWeekdaysWrong)

/- THE SECOND FORM. 'bulk': how many values and letters a reading holds, each counted each time it is reached (what is shared counts as often as it is met; a slice's spare places count too). A statement '..UptoSaid' is the law's where the arguments, and the package variables that the reading takes, are together of bulk at most 1048576: NARROWER than '..Said'. Prove '..Said' where nothing that the law and all that it calls make is longer than what came in: it says more and counts as full. Else prove '..UptoSaid'. A law counts once. -/
mutual
def uptoBulk {H : Type} : DataW H → Nat
  | .lit (.string bytes) => bytes.length + 1
  | .lit _ => 1
  | .nil => 1
  | .ptr d => uptoBulk d + 1
  | .slice elems spare => uptoBulkAll elems + uptoBulkAll spare + 1
  | .agg parts => uptoBulkAll parts + 1
  | .iface _ d => uptoBulk d + 1
  | .map entries => uptoBulkEntries entries + 1
  | .held _ => 1
def uptoBulkAll {H : Type} : List (DataW H) → Nat
  | [] => 0
  | d :: r => uptoBulk d + uptoBulkAll r
def uptoBulkEntries {H : Type} : List (Lit × DataW H) → Nat
  | [] => 0
  | x :: r => uptoBulkEntry x + uptoBulkEntries r
def uptoBulkEntry {H : Type} : Lit × DataW H → Nat
  | (.string bytes, d) => bytes.length + uptoBulk d + 1
  | (_, d) => uptoBulk d + 1
 end
def uptoSmall : (H : Type) → List (DataW H) → Bool := fun _ ds => decide (uptoBulkAll ds ≤ 1048576)
def OpenSpec.upto (s : _root_.Go.ChangeSpec) : _root_.Go.OpenSpec := { _root_.Go.OpenSpec.ofChange s with cond := some uptoSmall }

/-- 'newellaw05.FeastTells', WHERE WHAT IT READS IS OF BULK AT MOST 1048576: true; the input reads as it did. -/
def feastTellsUptoRow : OpenClaim := { program := "ytdoahnkjkbpdaaa", sum := "abb045ce5436b56c121cfbefc337769e9480d98299c5941f7291ec29b77dd6a7", func := "newel/newellaw05.FeastTells", spec := "feastTells", unfollowed := true, recurses := true, plainKeys := false, apart := false, narrowed := true }
def FeastTellsUptoSaid : Prop := feastTellsUptoRow.holds Try.pinned (OpenSpec.upto feastTellsSpec)

/-- 'newellaw05.FeastLists', WHERE WHAT IT READS IS OF BULK AT MOST 1048576: true; the input reads as it did. -/
def feastListsUptoRow : OpenClaim := { program := "ytdoahnkjkbpdaaa", sum := "abb045ce5436b56c121cfbefc337769e9480d98299c5941f7291ec29b77dd6a7", func := "newel/newellaw05.FeastLists", spec := "feastLists", unfollowed := true, recurses := true, plainKeys := false, apart := false, narrowed := true }
def FeastListsUptoSaid : Prop := feastListsUptoRow.holds Try.pinned (OpenSpec.upto feastListsSpec)

/-- 'newellaw05.FeastRows', WHERE WHAT IT READS IS OF BULK AT MOST 1048576: true; the input reads as it did. -/
def feastRowsUptoRow : OpenClaim := { program := "ytdoahnkjkbpdaaa", sum := "abb045ce5436b56c121cfbefc337769e9480d98299c5941f7291ec29b77dd6a7", func := "newel/newellaw05.FeastRows", spec := "feastRows", unfollowed := true, recurses := true, plainKeys := false, apart := false, narrowed := true }
def FeastRowsUptoSaid : Prop := feastRowsUptoRow.holds Try.pinned (OpenSpec.upto feastRowsSpec)

/-- 'newellaw05.FeastTouch', WHERE WHAT IT READS IS OF BULK AT MOST 1048576: true; the input reads as it did. -/
def feastTouchUptoRow : OpenClaim := { program := "ytdoahnkjkbpdaaa", sum := "abb045ce5436b56c121cfbefc337769e9480d98299c5941f7291ec29b77dd6a7", func := "newel/newellaw05.FeastTouch", spec := "feastTouch", unfollowed := true, recurses := true, plainKeys := false, apart := false, narrowed := true }
def FeastTouchUptoSaid : Prop := feastTouchUptoRow.holds Try.pinned (OpenSpec.upto feastTouchSpec)

/-- 'newellaw05.FeastAbroad', WHERE WHAT IT READS IS OF BULK AT MOST 1048576: true; the input reads as it did. -/
def feastAbroadUptoRow : OpenClaim := { program := "ytdoahnkjkbpdaaa", sum := "abb045ce5436b56c121cfbefc337769e9480d98299c5941f7291ec29b77dd6a7", func := "newel/newellaw05.FeastAbroad", spec := "feastAbroad", unfollowed := true, recurses := true, plainKeys := false, apart := false, narrowed := true }
def FeastAbroadUptoSaid : Prop := feastAbroadUptoRow.holds Try.pinned (OpenSpec.upto feastAbroadSpec)

/-- 'newellaw05.FeastAll', WHERE WHAT IT READS IS OF BULK AT MOST 1048576: true; the input reads as it did. -/
def feastAllUptoRow : OpenClaim := { program := "ytdoahnkjkbpdaaa", sum := "abb045ce5436b56c121cfbefc337769e9480d98299c5941f7291ec29b77dd6a7", func := "newel/newellaw05.FeastAll", spec := "feastAll", unfollowed := true, recurses := true, plainKeys := false, apart := false, narrowed := true }
def FeastAllUptoSaid : Prop := feastAllUptoRow.holds Try.pinned (OpenSpec.upto feastAllSpec)

/-- 'newellaw05.FeastWeekdays', WHERE WHAT IT READS IS OF BULK AT MOST 1048576: true; the input reads as it did. -/
def feastWeekdaysUptoRow : OpenClaim := { program := "ytdoahnkjkbpdaaa", sum := "abb045ce5436b56c121cfbefc337769e9480d98299c5941f7291ec29b77dd6a7", func := "newel/newellaw05.FeastWeekdays", spec := "feastWeekdays", unfollowed := true, recurses := true, plainKeys := false, apart := false, narrowed := true }
def FeastWeekdaysUptoSaid : Prop := feastWeekdaysUptoRow.holds Try.pinned (OpenSpec.upto feastWeekdaysSpec)

end Rows
end Go.Proofs.Ytdoahnkjkbpdaaa
