/-
  No cell of these rows narrows 'for every input' (looked for: loops, veiled, ifaces, maps, wideKeys, modest, calm, conditions, laid).
  DERIVED. THE GIVEN ROWS OF THIS SEAT. 2 by the template 'for every input the law returns true; each argument reads behind the call as it read before'; 0 by the template 'total and deterministic' (their statements: YtlhmeebbdjiokaaTotals.lean).
  GIVEN WITH THE SEED: the statements are not yours to turn. If you find one false, say at which input.
  Laid BY PROGRAM, IN A SANDBOX (cutbox-rows.mjs): the forced cells as the released guide's own fill.sh prints them over the translation 5ed777a80f34655c… (all of the seat's roots in one cut). By AI agents, Wed Nov 11 2026. No macro, syntax, notation, axiom, sorry.
-/
import Derived.Test.YtlhmeebbdjiokaaChecked
import GoSem.Claim
import GoSem.ClaimJoined
import GoSem.ClaimMapViews
import Derived.JoinedTies
import Derived.KernelRfl
namespace Go.Proofs.Ytlhmeebbdjiokaa
/- THE CELL 'sum', in the pinned program and in every row, IS THE sha256 OF THE DUMP (.gsa) THAT YtlhmeebbdjiokaaProg.lean LOADS. Nothing in Lean hashes anything: it is a label: what it is worth is what the hold of that sum in a sandbox is worth. -/
noncomputable def Try.pinned : Pinned := { name := "ytlhmeebbdjiokaa", sum := "5ed777a80f34655c03c6d3a33e9b4268edc04be720712c1b5ad3ad31152a9595", checked := Try.checked }
namespace Rows
def none {H : Type} : Left H := { results := [], args := [] }

/-- 'chartularylaw09.CabinetPlays': WHATEVER THE INPUT: true; the input reads as it did. -/
def cabinetPlaysSpec : ChangeSpec := { name := "cabinetPlays", fn := fun _ => fun
  | [d1, d2] => { results := [.lit (.bool true)], args := [d1, d2] }
  | _ => none }
def cabinetPlaysRow : OpenClaim := { program := "ytlhmeebbdjiokaa", sum := "5ed777a80f34655c03c6d3a33e9b4268edc04be720712c1b5ad3ad31152a9595", func := "chartulary/chartularylaw09.CabinetPlays", spec := "cabinetPlays", inPlace := ["maps.clone"], unfollowed := true, recurses := true, apart := false }
def CabinetPlaysSaid : Prop := cabinetPlaysRow.holds Try.pinned (OpenSpec.ofChange cabinetPlaysSpec)

/-- ITS FALSE NEIGHBOUR: 'it returns false'. Refute it at one input. -/
def cabinetPlaysWrong : ChangeSpec := { name := "cabinetPlays", fn := fun _ => fun
  | [d1, d2] => { results := [.lit (.bool false)], args := [d1, d2] }
  | _ => none }
def CabinetPlaysWrongFalsely : Prop := cabinetPlaysRow.holds Try.pinned (OpenSpec.ofChange cabinetPlaysWrong)

/-- 'chartularylaw09.CabinetRoom': WHATEVER THE INPUT: true; the input reads as it did. -/
def cabinetRoomSpec : ChangeSpec := { name := "cabinetRoom", fn := fun _ => fun
  | [d] => { results := [.lit (.bool true)], args := [d] }
  | _ => none }
def cabinetRoomRow : OpenClaim := { program := "ytlhmeebbdjiokaa", sum := "5ed777a80f34655c03c6d3a33e9b4268edc04be720712c1b5ad3ad31152a9595", func := "chartulary/chartularylaw09.CabinetRoom", spec := "cabinetRoom", inPlace := ["maps.clone"], unfollowed := true, recurses := true, apart := false }
def CabinetRoomSaid : Prop := cabinetRoomRow.holds Try.pinned (OpenSpec.ofChange cabinetRoomSpec)

/-- ITS FALSE NEIGHBOUR: 'it returns false'. Refute it at one input. -/
def cabinetRoomWrong : ChangeSpec := { name := "cabinetRoom", fn := fun _ => fun
  | [d] => { results := [.lit (.bool false)], args := [d] }
  | _ => none }
def CabinetRoomWrongFalsely : Prop := cabinetRoomRow.holds Try.pinned (OpenSpec.ofChange cabinetRoomWrong)

/- THE SECOND FORM. 'bulk': how many values and letters a reading holds, each counted each time it is reached (what is shared counts as often as it is met; a slice's spare places count too). A statement '..UptoSaid' is the law's where the arguments, and the package variables that the reading takes, are together of bulk at most 1048576: NARROWER than '..Said'. Prove '..Said' where nothing that the law and all that it calls make is longer than what came in: it says more and counts as full. Else prove '..UptoSaid'. A law counts once. -/
mutual
def uptoBulk {H : Type} : DataW H → Nat
  | .lit (.string bytes) => bytes.length + 1
  | .lit _ => 1
  | .nil => 1
  | .ptr d => uptoBulk d + 1
  | .slice elems spare => uptoBulkAll elems + uptoBulkAll spare + 1
  | .agg parts => uptoBulkAll parts + 1
  | .iface _ d => uptoBulk d + 1
  | .map entries => uptoBulkEntries entries + 1
  | .held _ => 1
def uptoBulkAll {H : Type} : List (DataW H) → Nat
  | [] => 0
  | d :: r => uptoBulk d + uptoBulkAll r
def uptoBulkEntries {H : Type} : List (Lit × DataW H) → Nat
  | [] => 0
  | x :: r => uptoBulkEntry x + uptoBulkEntries r
def uptoBulkEntry {H : Type} : Lit × DataW H → Nat
  | (.string bytes, d) => bytes.length + uptoBulk d + 1
  | (_, d) => uptoBulk d + 1
 end
def uptoSmall : (H : Type) → List (DataW H) → Bool := fun _ ds => decide (uptoBulkAll ds ≤ 1048576)
def OpenSpec.upto (s : _root_.Go.ChangeSpec) : _root_.Go.OpenSpec := { _root_.Go.OpenSpec.ofChange s with cond := some uptoSmall }

/-- 'chartularylaw09.CabinetPlays', WHERE WHAT IT READS IS OF BULK AT MOST 1048576: true; the input reads as it did. -/
def cabinetPlaysUptoRow : OpenClaim := { program := "ytlhmeebbdjiokaa", sum := "5ed777a80f34655c03c6d3a33e9b4268edc04be720712c1b5ad3ad31152a9595", func := "chartulary/chartularylaw09.CabinetPlays", spec := "cabinetPlays", inPlace := ["maps.clone"], unfollowed := true, recurses := true, apart := false, narrowed := true }
def CabinetPlaysUptoSaid : Prop := cabinetPlaysUptoRow.holds Try.pinned (OpenSpec.upto cabinetPlaysSpec)

/-- 'chartularylaw09.CabinetRoom', WHERE WHAT IT READS IS OF BULK AT MOST 1048576: true; the input reads as it did. -/
def cabinetRoomUptoRow : OpenClaim := { program := "ytlhmeebbdjiokaa", sum := "5ed777a80f34655c03c6d3a33e9b4268edc04be720712c1b5ad3ad31152a9595", func := "chartulary/chartularylaw09.CabinetRoom", spec := "cabinetRoom", inPlace := ["maps.clone"], unfollowed := true, recurses := true, apart := false, narrowed := true }
def CabinetRoomUptoSaid : Prop := cabinetRoomUptoRow.holds Try.pinned (OpenSpec.upto cabinetRoomSpec)

end Rows
end Go.Proofs.Ytlhmeebbdjiokaa
