/-
  No cell of these rows narrows 'for every input' (looked for: loops, veiled, ifaces, maps, wideKeys, modest, calm, conditions, laid).
  DERIVED. THE GIVEN ROWS OF THIS SEAT. 5 by the template 'for every input the law returns true; each argument reads behind the call as it read before'; 0 by the template 'total and deterministic' (their statements: YtiakgcaflnpmeaaTotals.lean).
  GIVEN WITH THE SEED: the statements are not yours to turn. If you find one false, say at which input.
  Laid BY PROGRAM, IN A SANDBOX (cutbox-rows.mjs): the forced cells as the released guide's own fill.sh prints them over the translation ab621241a8a20d72… (all of the seat's roots in one cut). By AI agents, Wed Nov 11 2026. No macro, syntax, notation, axiom, sorry.
-/
import Derived.Test.YtiakgcaflnpmeaaChecked
import GoSem.Claim
import GoSem.ClaimJoined
import GoSem.ClaimMapViews
import Derived.JoinedTies
import Derived.KernelRfl
namespace Go.Proofs.Ytiakgcaflnpmeaa
/- THE CELL 'sum', in the pinned program and in every row, IS THE sha256 OF THE DUMP (.gsa) THAT YtiakgcaflnpmeaaProg.lean LOADS. Nothing in Lean hashes anything: it is a label: what it is worth is what the hold of that sum in a sandbox is worth. -/
noncomputable def Try.pinned : Pinned := { name := "ytiakgcaflnpmeaa", sum := "ab621241a8a20d72a770c3099d16cfa6a9b343215310d3b7d52408b908efcdd7", checked := Try.checked }
namespace Rows
def none {H : Type} : Left H := { results := [], args := [] }

/-- 'joinlearnlaw07.AcyclicTwice': WHATEVER THE INPUT: true; the input reads as it did. -/
def acyclicTwiceSpec : ChangeSpec := { name := "acyclicTwice", fn := fun _ => fun
  | [d1, d2] => { results := [.lit (.bool true)], args := [d1, d2] }
  | _ => none }
def acyclicTwiceRow : OpenClaim := { program := "ytiakgcaflnpmeaa", sum := "ab621241a8a20d72a770c3099d16cfa6a9b343215310d3b7d52408b908efcdd7", func := "joinlearn/joinlearnlaw07.AcyclicTwice", spec := "acyclicTwice", unfollowed := true, recurses := true, apart := false }
def AcyclicTwiceSaid : Prop := acyclicTwiceRow.holds Try.pinned (OpenSpec.ofChange acyclicTwiceSpec)

/-- ITS FALSE NEIGHBOUR: 'it returns false'. Refute it at one input. -/
def acyclicTwiceWrong : ChangeSpec := { name := "acyclicTwice", fn := fun _ => fun
  | [d1, d2] => { results := [.lit (.bool false)], args := [d1, d2] }
  | _ => none }
def AcyclicTwiceWrongFalsely : Prop := acyclicTwiceRow.holds Try.pinned (OpenSpec.ofChange acyclicTwiceWrong)

/-- 'joinlearnlaw07.AcyclicExact': WHATEVER THE INPUT: true; the input reads as it did. -/
def acyclicExactSpec : ChangeSpec := { name := "acyclicExact", fn := fun _ => fun
  | [d1, d2, d3, d4, d5, d6, d7] => { results := [.lit (.bool true)], args := [d1, d2, d3, d4, d5, d6, d7] }
  | _ => none }
def acyclicExactRow : OpenClaim := { program := "ytiakgcaflnpmeaa", sum := "ab621241a8a20d72a770c3099d16cfa6a9b343215310d3b7d52408b908efcdd7", func := "joinlearn/joinlearnlaw07.AcyclicExact", spec := "acyclicExact", unfollowed := true, recurses := true, apart := false }
def AcyclicExactSaid : Prop := acyclicExactRow.holds Try.pinned (OpenSpec.ofChange acyclicExactSpec)

/-- ITS FALSE NEIGHBOUR: 'it returns false'. Refute it at one input. -/
def acyclicExactWrong : ChangeSpec := { name := "acyclicExact", fn := fun _ => fun
  | [d1, d2, d3, d4, d5, d6, d7] => { results := [.lit (.bool false)], args := [d1, d2, d3, d4, d5, d6, d7] }
  | _ => none }
def AcyclicExactWrongFalsely : Prop := acyclicExactRow.holds Try.pinned (OpenSpec.ofChange acyclicExactWrong)

/-- 'joinlearnlaw07.AcyclicDecides': WHATEVER THE INPUT: true; the input reads as it did. -/
def acyclicDecidesSpec : ChangeSpec := { name := "acyclicDecides", fn := fun _ => fun
  | [d] => { results := [.lit (.bool true)], args := [d] }
  | _ => none }
def acyclicDecidesRow : OpenClaim := { program := "ytiakgcaflnpmeaa", sum := "ab621241a8a20d72a770c3099d16cfa6a9b343215310d3b7d52408b908efcdd7", func := "joinlearn/joinlearnlaw07.AcyclicDecides", spec := "acyclicDecides", unfollowed := true, recurses := true, apart := false }
def AcyclicDecidesSaid : Prop := acyclicDecidesRow.holds Try.pinned (OpenSpec.ofChange acyclicDecidesSpec)

/-- ITS FALSE NEIGHBOUR: 'it returns false'. Refute it at one input. -/
def acyclicDecidesWrong : ChangeSpec := { name := "acyclicDecides", fn := fun _ => fun
  | [d] => { results := [.lit (.bool false)], args := [d] }
  | _ => none }
def AcyclicDecidesWrongFalsely : Prop := acyclicDecidesRow.holds Try.pinned (OpenSpec.ofChange acyclicDecidesWrong)

/-- 'joinlearnlaw07.AcyclicProves': WHATEVER THE INPUT: true; the input reads as it did. -/
def acyclicProvesSpec : ChangeSpec := { name := "acyclicProves", fn := fun _ => fun
  | [d1, d2, d3, d4] => { results := [.lit (.bool true)], args := [d1, d2, d3, d4] }
  | _ => none }
def acyclicProvesRow : OpenClaim := { program := "ytiakgcaflnpmeaa", sum := "ab621241a8a20d72a770c3099d16cfa6a9b343215310d3b7d52408b908efcdd7", func := "joinlearn/joinlearnlaw07.AcyclicProves", spec := "acyclicProves", unfollowed := true, recurses := true, apart := false }
def AcyclicProvesSaid : Prop := acyclicProvesRow.holds Try.pinned (OpenSpec.ofChange acyclicProvesSpec)

/-- ITS FALSE NEIGHBOUR: 'it returns false'. Refute it at one input. -/
def acyclicProvesWrong : ChangeSpec := { name := "acyclicProves", fn := fun _ => fun
  | [d1, d2, d3, d4] => { results := [.lit (.bool false)], args := [d1, d2, d3, d4] }
  | _ => none }
def AcyclicProvesWrongFalsely : Prop := acyclicProvesRow.holds Try.pinned (OpenSpec.ofChange acyclicProvesWrong)

/-- 'joinlearnlaw07.AcyclicOrder': WHATEVER THE INPUT: true; the input reads as it did. -/
def acyclicOrderSpec : ChangeSpec := { name := "acyclicOrder", fn := fun _ => fun
  | [d] => { results := [.lit (.bool true)], args := [d] }
  | _ => none }
def acyclicOrderRow : OpenClaim := { program := "ytiakgcaflnpmeaa", sum := "ab621241a8a20d72a770c3099d16cfa6a9b343215310d3b7d52408b908efcdd7", func := "joinlearn/joinlearnlaw07.AcyclicOrder", spec := "acyclicOrder", unfollowed := true, recurses := true, apart := false }
def AcyclicOrderSaid : Prop := acyclicOrderRow.holds Try.pinned (OpenSpec.ofChange acyclicOrderSpec)

/-- ITS FALSE NEIGHBOUR: 'it returns false'. Refute it at one input. -/
def acyclicOrderWrong : ChangeSpec := { name := "acyclicOrder", fn := fun _ => fun
  | [d] => { results := [.lit (.bool false)], args := [d] }
  | _ => none }
def AcyclicOrderWrongFalsely : Prop := acyclicOrderRow.holds Try.pinned (OpenSpec.ofChange acyclicOrderWrong)

/- THE SECOND FORM. 'bulk': how many values and letters a reading holds, each counted each time it is reached (what is shared counts as often as it is met; a slice's spare places count too). A statement '..UptoSaid' is the law's where the arguments, and the package variables that the reading takes, are together of bulk at most 1048576: NARROWER than '..Said'. Prove '..Said' where nothing that the law and all that it calls make is longer than what came in: it says more and counts as full. Else prove '..UptoSaid'. A law counts once. -/
mutual
def uptoBulk {H : Type} : DataW H → Nat
  | .lit (.string bytes) => bytes.length + 1
  | .lit _ => 1
  | .nil => 1
  | .ptr d => uptoBulk d + 1
  | .slice elems spare => uptoBulkAll elems + uptoBulkAll spare + 1
  | .agg parts => uptoBulkAll parts + 1
  | .iface _ d => uptoBulk d + 1
  | .map entries => uptoBulkEntries entries + 1
  | .held _ => 1
def uptoBulkAll {H : Type} : List (DataW H) → Nat
  | [] => 0
  | d :: r => uptoBulk d + uptoBulkAll r
def uptoBulkEntries {H : Type} : List (Lit × DataW H) → Nat
  | [] => 0
  | x :: r => uptoBulkEntry x + uptoBulkEntries r
def uptoBulkEntry {H : Type} : Lit × DataW H → Nat
  | (.string bytes, d) => bytes.length + uptoBulk d + 1
  | (_, d) => uptoBulk d + 1
 end
def uptoSmall : (H : Type) → List (DataW H) → Bool := fun _ ds => decide (uptoBulkAll ds ≤ 1048576)
def OpenSpec.upto (s : _root_.Go.ChangeSpec) : _root_.Go.OpenSpec := { _root_.Go.OpenSpec.ofChange s with cond := some uptoSmall }

/-- 'joinlearnlaw07.AcyclicTwice', WHERE WHAT IT READS IS OF BULK AT MOST 1048576: true; the input reads as it did. -/
def acyclicTwiceUptoRow : OpenClaim := { program := "ytiakgcaflnpmeaa", sum := "ab621241a8a20d72a770c3099d16cfa6a9b343215310d3b7d52408b908efcdd7", func := "joinlearn/joinlearnlaw07.AcyclicTwice", spec := "acyclicTwice", unfollowed := true, recurses := true, apart := false, narrowed := true }
def AcyclicTwiceUptoSaid : Prop := acyclicTwiceUptoRow.holds Try.pinned (OpenSpec.upto acyclicTwiceSpec)

/-- 'joinlearnlaw07.AcyclicExact', WHERE WHAT IT READS IS OF BULK AT MOST 1048576: true; the input reads as it did. -/
def acyclicExactUptoRow : OpenClaim := { program := "ytiakgcaflnpmeaa", sum := "ab621241a8a20d72a770c3099d16cfa6a9b343215310d3b7d52408b908efcdd7", func := "joinlearn/joinlearnlaw07.AcyclicExact", spec := "acyclicExact", unfollowed := true, recurses := true, apart := false, narrowed := true }
def AcyclicExactUptoSaid : Prop := acyclicExactUptoRow.holds Try.pinned (OpenSpec.upto acyclicExactSpec)

/-- 'joinlearnlaw07.AcyclicDecides', WHERE WHAT IT READS IS OF BULK AT MOST 1048576: true; the input reads as it did. -/
def acyclicDecidesUptoRow : OpenClaim := { program := "ytiakgcaflnpmeaa", sum := "ab621241a8a20d72a770c3099d16cfa6a9b343215310d3b7d52408b908efcdd7", func := "joinlearn/joinlearnlaw07.AcyclicDecides", spec := "acyclicDecides", unfollowed := true, recurses := true, apart := false, narrowed := true }
def AcyclicDecidesUptoSaid : Prop := acyclicDecidesUptoRow.holds Try.pinned (OpenSpec.upto acyclicDecidesSpec)

/-- 'joinlearnlaw07.AcyclicProves', WHERE WHAT IT READS IS OF BULK AT MOST 1048576: true; the input reads as it did. -/
def acyclicProvesUptoRow : OpenClaim := { program := "ytiakgcaflnpmeaa", sum := "ab621241a8a20d72a770c3099d16cfa6a9b343215310d3b7d52408b908efcdd7", func := "joinlearn/joinlearnlaw07.AcyclicProves", spec := "acyclicProves", unfollowed := true, recurses := true, apart := false, narrowed := true }
def AcyclicProvesUptoSaid : Prop := acyclicProvesUptoRow.holds Try.pinned (OpenSpec.upto acyclicProvesSpec)

/-- 'joinlearnlaw07.AcyclicOrder', WHERE WHAT IT READS IS OF BULK AT MOST 1048576: true; the input reads as it did. -/
def acyclicOrderUptoRow : OpenClaim := { program := "ytiakgcaflnpmeaa", sum := "ab621241a8a20d72a770c3099d16cfa6a9b343215310d3b7d52408b908efcdd7", func := "joinlearn/joinlearnlaw07.AcyclicOrder", spec := "acyclicOrder", unfollowed := true, recurses := true, apart := false, narrowed := true }
def AcyclicOrderUptoSaid : Prop := acyclicOrderUptoRow.holds Try.pinned (OpenSpec.upto acyclicOrderSpec)

end Rows
end Go.Proofs.Ytiakgcaflnpmeaa
