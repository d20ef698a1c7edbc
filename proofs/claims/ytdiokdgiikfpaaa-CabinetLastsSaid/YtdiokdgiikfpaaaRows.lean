/-
  No cell of these rows narrows 'for every input' (looked for: loops, veiled, ifaces, maps, wideKeys, modest, calm, conditions, laid).
  DERIVED. THE GIVEN ROWS OF THIS SEAT. 5 by the template 'for every input the law returns true; each argument reads behind the call as it read before'; 0 by the template 'total and deterministic' (their statements: YtdiokdgiikfpaaaTotals.lean).
  GIVEN WITH THE SEED: the statements are not yours to turn. If you find one false, say at which input.
  Laid BY PROGRAM, IN A SANDBOX (cutbox-rows.mjs): the forced cells as the released guide's own fill.sh prints them over the translation 9be2b8687413e3ba… (all of the seat's roots in one cut). By AI agents, Wed Nov 11 2026. No macro, syntax, notation, axiom, sorry.
-/
import Derived.Test.YtdiokdgiikfpaaaChecked
import GoSem.Claim
import GoSem.ClaimJoined
import GoSem.ClaimMapViews
import Derived.JoinedTies
import Derived.KernelRfl
namespace Go.Proofs.Ytdiokdgiikfpaaa
/- THE CELL 'sum', in the pinned program and in every row, IS THE sha256 OF THE DUMP (.gsa) THAT YtdiokdgiikfpaaaProg.lean LOADS. Nothing in Lean hashes anything: it is a label: what it is worth is what the hold of that sum in a sandbox is worth. -/
noncomputable def Try.pinned : Pinned := { name := "ytdiokdgiikfpaaa", sum := "9be2b8687413e3ba559753b27dfe48874a8cec08982499cc631f88550b39aa98", checked := Try.checked }
namespace Rows
def none {H : Type} : Left H := { results := [], args := [] }

/-- 'chartularylaw09.CabinetPlays': WHATEVER THE INPUT: true; the input reads as it did. -/
def cabinetPlaysSpec : ChangeSpec := { name := "cabinetPlays", fn := fun _ => fun
  | [d1, d2] => { results := [.lit (.bool true)], args := [d1, d2] }
  | _ => none }
def cabinetPlaysRow : OpenClaim := { program := "ytdiokdgiikfpaaa", sum := "9be2b8687413e3ba559753b27dfe48874a8cec08982499cc631f88550b39aa98", func := "chartulary/chartularylaw09.CabinetPlays", spec := "cabinetPlays", inPlace := ["maps.clone"], unfollowed := true, recurses := true, apart := false }
def CabinetPlaysSaid : Prop := cabinetPlaysRow.holds Try.pinned (OpenSpec.ofChange cabinetPlaysSpec)

/-- ITS FALSE NEIGHBOUR: 'it returns false'. Refute it at one input. -/
def cabinetPlaysWrong : ChangeSpec := { name := "cabinetPlays", fn := fun _ => fun
  | [d1, d2] => { results := [.lit (.bool false)], args := [d1, d2] }
  | _ => none }
def CabinetPlaysWrongFalsely : Prop := cabinetPlaysRow.holds Try.pinned (OpenSpec.ofChange cabinetPlaysWrong)

/-- 'chartularylaw09.CabinetLasts': WHATEVER THE INPUT: true; the input reads as it did. -/
def cabinetLastsSpec : ChangeSpec := { name := "cabinetLasts", fn := fun _ => fun
  | [d1, d2, d3, d4, d5, d6] => { results := [.lit (.bool true)], args := [d1, d2, d3, d4, d5, d6] }
  | _ => none }
def cabinetLastsRow : OpenClaim := { program := "ytdiokdgiikfpaaa", sum := "9be2b8687413e3ba559753b27dfe48874a8cec08982499cc631f88550b39aa98", func := "chartulary/chartularylaw09.CabinetLasts", spec := "cabinetLasts", inPlace := ["maps.clone"], unfollowed := true, recurses := true, apart := false }
def CabinetLastsSaid : Prop := cabinetLastsRow.holds Try.pinned (OpenSpec.ofChange cabinetLastsSpec)

/-- ITS FALSE NEIGHBOUR: 'it returns false'. Refute it at one input. -/
def cabinetLastsWrong : ChangeSpec := { name := "cabinetLasts", fn := fun _ => fun
  | [d1, d2, d3, d4, d5, d6] => { results := [.lit (.bool false)], args := [d1, d2, d3, d4, d5, d6] }
  | _ => none }
def CabinetLastsWrongFalsely : Prop := cabinetLastsRow.holds Try.pinned (OpenSpec.ofChange cabinetLastsWrong)

/-- 'chartularylaw09.CabinetFails': WHATEVER THE INPUT: true; the input reads as it did. -/
def cabinetFailsSpec : ChangeSpec := { name := "cabinetFails", fn := fun _ => fun
  | [d] => { results := [.lit (.bool true)], args := [d] }
  | _ => none }
def cabinetFailsRow : OpenClaim := { program := "ytdiokdgiikfpaaa", sum := "9be2b8687413e3ba559753b27dfe48874a8cec08982499cc631f88550b39aa98", func := "chartulary/chartularylaw09.CabinetFails", spec := "cabinetFails", inPlace := ["maps.clone"], unfollowed := true, recurses := true, apart := false }
def CabinetFailsSaid : Prop := cabinetFailsRow.holds Try.pinned (OpenSpec.ofChange cabinetFailsSpec)

/-- ITS FALSE NEIGHBOUR: 'it returns false'. Refute it at one input. -/
def cabinetFailsWrong : ChangeSpec := { name := "cabinetFails", fn := fun _ => fun
  | [d] => { results := [.lit (.bool false)], args := [d] }
  | _ => none }
def CabinetFailsWrongFalsely : Prop := cabinetFailsRow.holds Try.pinned (OpenSpec.ofChange cabinetFailsWrong)

/-- 'chartularylaw09.CabinetNone': WHATEVER THE INPUT: true; the input reads as it did. -/
def cabinetNoneSpec : ChangeSpec := { name := "cabinetNone", fn := fun _ => fun
  | [d1, d2, d3] => { results := [.lit (.bool true)], args := [d1, d2, d3] }
  | _ => none }
def cabinetNoneRow : OpenClaim := { program := "ytdiokdgiikfpaaa", sum := "9be2b8687413e3ba559753b27dfe48874a8cec08982499cc631f88550b39aa98", func := "chartulary/chartularylaw09.CabinetNone", spec := "cabinetNone", inPlace := ["maps.clone"], unfollowed := true, recurses := true, apart := false }
def CabinetNoneSaid : Prop := cabinetNoneRow.holds Try.pinned (OpenSpec.ofChange cabinetNoneSpec)

/-- ITS FALSE NEIGHBOUR: 'it returns false'. Refute it at one input. -/
def cabinetNoneWrong : ChangeSpec := { name := "cabinetNone", fn := fun _ => fun
  | [d1, d2, d3] => { results := [.lit (.bool false)], args := [d1, d2, d3] }
  | _ => none }
def CabinetNoneWrongFalsely : Prop := cabinetNoneRow.holds Try.pinned (OpenSpec.ofChange cabinetNoneWrong)

/-- 'chartularylaw09.CabinetRoom': WHATEVER THE INPUT: true; the input reads as it did. -/
def cabinetRoomSpec : ChangeSpec := { name := "cabinetRoom", fn := fun _ => fun
  | [d] => { results := [.lit (.bool true)], args := [d] }
  | _ => none }
def cabinetRoomRow : OpenClaim := { program := "ytdiokdgiikfpaaa", sum := "9be2b8687413e3ba559753b27dfe48874a8cec08982499cc631f88550b39aa98", func := "chartulary/chartularylaw09.CabinetRoom", spec := "cabinetRoom", inPlace := ["maps.clone"], unfollowed := true, recurses := true, apart := false }
def CabinetRoomSaid : Prop := cabinetRoomRow.holds Try.pinned (OpenSpec.ofChange cabinetRoomSpec)

/-- ITS FALSE NEIGHBOUR: 'it returns false'. Refute it at one input. -/
def cabinetRoomWrong : ChangeSpec := { name := "cabinetRoom", fn := fun _ => fun
  | [d] => { results := [.lit (.bool false)], args := [d] }
  | _ => none }
def CabinetRoomWrongFalsely : Prop := cabinetRoomRow.holds Try.pinned (OpenSpec.ofChange cabinetRoomWrong)

/- THE SECOND FORM. 'bulk': how many values and letters a reading holds, each counted each time it is reached (what is shared counts as often as it is met; a slice's spare places count too). A statement '..UptoSaid' is the law's where the arguments, and the package variables that the reading takes, are together of bulk at most 1048576: NARROWER than '..Said'. Prove '..Said' where nothing that the law and all that it calls make is longer than what came in: it says more and counts as full. Else prove '..UptoSaid'. A law counts once. -/
mutual
def uptoBulk {H : Type} : DataW H → Nat
  | .lit (.string bytes) => bytes.length + 1
  | .lit _ => 1
  | .nil => 1
  | .ptr d => uptoBulk d + 1
  | .slice elems spare => uptoBulkAll elems + uptoBulkAll spare + 1
  | .agg parts => uptoBulkAll parts + 1
  | .iface _ d => uptoBulk d + 1
  | .map entries => uptoBulkEntries entries + 1
  | .held _ => 1
def uptoBulkAll {H : Type} : List (DataW H) → Nat
  | [] => 0
  | d :: r => uptoBulk d + uptoBulkAll r
def uptoBulkEntries {H : Type} : List (Lit × DataW H) → Nat
  | [] => 0
  | x :: r => uptoBulkEntry x + uptoBulkEntries r
def uptoBulkEntry {H : Type} : Lit × DataW H → Nat
  | (.string bytes, d) => bytes.length + uptoBulk d + 1
  | (_, d) => uptoBulk d + 1
 end
def uptoSmall : (H : Type) → List (DataW H) → Bool := fun _ ds => decide (uptoBulkAll ds ≤ 1048576)
def OpenSpec.upto (s : _root_.Go.ChangeSpec) : _root_.Go.OpenSpec := { _root_.Go.OpenSpec.ofChange s with cond := some uptoSmall }

/-- 'chartularylaw09.CabinetPlays', WHERE WHAT IT READS IS OF BULK AT MOST 1048576: true; the input reads as it did. -/
def cabinetPlaysUptoRow : OpenClaim := { program := "ytdiokdgiikfpaaa", sum := "9be2b8687413e3ba559753b27dfe48874a8cec08982499cc631f88550b39aa98", func := "chartulary/chartularylaw09.CabinetPlays", spec := "cabinetPlays", inPlace := ["maps.clone"], unfollowed := true, recurses := true, apart := false, narrowed := true }
def CabinetPlaysUptoSaid : Prop := cabinetPlaysUptoRow.holds Try.pinned (OpenSpec.upto cabinetPlaysSpec)

/-- 'chartularylaw09.CabinetLasts', WHERE WHAT IT READS IS OF BULK AT MOST 1048576: true; the input reads as it did. -/
def cabinetLastsUptoRow : OpenClaim := { program := "ytdiokdgiikfpaaa", sum := "9be2b8687413e3ba559753b27dfe48874a8cec08982499cc631f88550b39aa98", func := "chartulary/chartularylaw09.CabinetLasts", spec := "cabinetLasts", inPlace := ["maps.clone"], unfollowed := true, recurses := true, apart := false, narrowed := true }
def CabinetLastsUptoSaid : Prop := cabinetLastsUptoRow.holds Try.pinned (OpenSpec.upto cabinetLastsSpec)

/-- 'chartularylaw09.CabinetFails', WHERE WHAT IT READS IS OF BULK AT MOST 1048576: true; the input reads as it did. -/
def cabinetFailsUptoRow : OpenClaim := { program := "ytdiokdgiikfpaaa", sum := "9be2b8687413e3ba559753b27dfe48874a8cec08982499cc631f88550b39aa98", func := "chartulary/chartularylaw09.CabinetFails", spec := "cabinetFails", inPlace := ["maps.clone"], unfollowed := true, recurses := true, apart := false, narrowed := true }
def CabinetFailsUptoSaid : Prop := cabinetFailsUptoRow.holds Try.pinned (OpenSpec.upto cabinetFailsSpec)

/-- 'chartularylaw09.CabinetNone', WHERE WHAT IT READS IS OF BULK AT MOST 1048576: true; the input reads as it did. -/
def cabinetNoneUptoRow : OpenClaim := { program := "ytdiokdgiikfpaaa", sum := "9be2b8687413e3ba559753b27dfe48874a8cec08982499cc631f88550b39aa98", func := "chartulary/chartularylaw09.CabinetNone", spec := "cabinetNone", inPlace := ["maps.clone"], unfollowed := true, recurses := true, apart := false, narrowed := true }
def CabinetNoneUptoSaid : Prop := cabinetNoneUptoRow.holds Try.pinned (OpenSpec.upto cabinetNoneSpec)

/-- 'chartularylaw09.CabinetRoom', WHERE WHAT IT READS IS OF BULK AT MOST 1048576: true; the input reads as it did. -/
def cabinetRoomUptoRow : OpenClaim := { program := "ytdiokdgiikfpaaa", sum := "9be2b8687413e3ba559753b27dfe48874a8cec08982499cc631f88550b39aa98", func := "chartulary/chartularylaw09.CabinetRoom", spec := "cabinetRoom", inPlace := ["maps.clone"], unfollowed := true, recurses := true, apart := false, narrowed := true }
def CabinetRoomUptoSaid : Prop := cabinetRoomUptoRow.holds Try.pinned (OpenSpec.upto cabinetRoomSpec)

end Rows
end Go.Proofs.Ytdiokdgiikfpaaa
