/-
  No cell of these rows narrows 'for every input' (looked for: loops, veiled, ifaces, maps, wideKeys, modest, calm, conditions, laid).
  DERIVED. THE GIVEN ROWS OF THIS SEAT. 4 by the template 'for every input the law returns true; each argument reads behind the call as it read before'; 0 by the template 'total and deterministic' (their statements: YtmfmbglacebeiaaTotals.lean).
  GIVEN WITH THE SEED: the statements are not yours to turn. If you find one false, say at which input.
  Laid BY PROGRAM, IN A SANDBOX (cutbox-rows.mjs): the forced cells as the released guide's own fill.sh prints them over the translation 891abd95f5ac3926… (all of the seat's roots in one cut). By AI agents, Wed Nov 11 2026. No macro, syntax, notation, axiom, sorry.
-/
import Derived.Test.YtmfmbglacebeiaaChecked
import GoSem.Claim
import GoSem.ClaimJoined
import GoSem.ClaimMapViews
import Derived.JoinedTies
import Derived.KernelRfl
namespace Go.Proofs.Ytmfmbglacebeiaa
/- THE CELL 'sum', in the pinned program and in every row, IS THE sha256 OF THE DUMP (.gsa) THAT YtmfmbglacebeiaaProg.lean LOADS. Nothing in Lean hashes anything: it is a label: what it is worth is what the hold of that sum in a sandbox is worth. -/
noncomputable def Try.pinned : Pinned := { name := "ytmfmbglacebeiaa", sum := "891abd95f5ac39268fed48a3b348f237db7c29622773b976dd41270403279afe", checked := Try.checked }
namespace Rows
def none {H : Type} : Left H := { results := [], args := [] }

/-- 'pinballlaw10.FlightExact': WHATEVER THE INPUT: true; the input reads as it did. -/
def flightExactSpec : ChangeSpec := { name := "flightExact", fn := fun _ => fun
  | [d1, d2] => { results := [.lit (.bool true)], args := [d1, d2] }
  | _ => none }
def flightExactRow : OpenClaim := { program := "ytmfmbglacebeiaa", sum := "891abd95f5ac39268fed48a3b348f237db7c29622773b976dd41270403279afe", func := "pinball/pinballlaw10.FlightExact", spec := "flightExact", unfollowed := true, recurses := true, apart := false }
def FlightExactSaid : Prop := flightExactRow.holds Try.pinned (OpenSpec.ofChange flightExactSpec)

/-- ITS FALSE NEIGHBOUR: 'it returns false'. Refute it at one input. -/
def flightExactWrong : ChangeSpec := { name := "flightExact", fn := fun _ => fun
  | [d1, d2] => { results := [.lit (.bool false)], args := [d1, d2] }
  | _ => none }
def FlightExactWrongFalsely : Prop := flightExactRow.holds Try.pinned (OpenSpec.ofChange flightExactWrong)

/-- 'pinballlaw10.FlightEnergy': WHATEVER THE INPUT: true; the input reads as it did. -/
def flightEnergySpec : ChangeSpec := { name := "flightEnergy", fn := fun _ => fun
  | [d] => { results := [.lit (.bool true)], args := [d] }
  | _ => none }
def flightEnergyRow : OpenClaim := { program := "ytmfmbglacebeiaa", sum := "891abd95f5ac39268fed48a3b348f237db7c29622773b976dd41270403279afe", func := "pinball/pinballlaw10.FlightEnergy", spec := "flightEnergy", unfollowed := true, recurses := true, apart := false }
def FlightEnergySaid : Prop := flightEnergyRow.holds Try.pinned (OpenSpec.ofChange flightEnergySpec)

/-- ITS FALSE NEIGHBOUR: 'it returns false'. Refute it at one input. -/
def flightEnergyWrong : ChangeSpec := { name := "flightEnergy", fn := fun _ => fun
  | [d] => { results := [.lit (.bool false)], args := [d] }
  | _ => none }
def FlightEnergyWrongFalsely : Prop := flightEnergyRow.holds Try.pinned (OpenSpec.ofChange flightEnergyWrong)

/-- 'pinballlaw10.FlightPlaces': WHATEVER THE INPUT: true; the input reads as it did. -/
def flightPlacesSpec : ChangeSpec := { name := "flightPlaces", fn := fun _ => fun
  | [d] => { results := [.lit (.bool true)], args := [d] }
  | _ => none }
def flightPlacesRow : OpenClaim := { program := "ytmfmbglacebeiaa", sum := "891abd95f5ac39268fed48a3b348f237db7c29622773b976dd41270403279afe", func := "pinball/pinballlaw10.FlightPlaces", spec := "flightPlaces", unfollowed := true, recurses := true, apart := false }
def FlightPlacesSaid : Prop := flightPlacesRow.holds Try.pinned (OpenSpec.ofChange flightPlacesSpec)

/-- ITS FALSE NEIGHBOUR: 'it returns false'. Refute it at one input. -/
def flightPlacesWrong : ChangeSpec := { name := "flightPlaces", fn := fun _ => fun
  | [d] => { results := [.lit (.bool false)], args := [d] }
  | _ => none }
def FlightPlacesWrongFalsely : Prop := flightPlacesRow.holds Try.pinned (OpenSpec.ofChange flightPlacesWrong)

/-- 'pinballlaw10.FlightSteps': WHATEVER THE INPUT: true; the input reads as it did. -/
def flightStepsSpec : ChangeSpec := { name := "flightSteps", fn := fun _ => fun
  | [d1, d2] => { results := [.lit (.bool true)], args := [d1, d2] }
  | _ => none }
def flightStepsRow : OpenClaim := { program := "ytmfmbglacebeiaa", sum := "891abd95f5ac39268fed48a3b348f237db7c29622773b976dd41270403279afe", func := "pinball/pinballlaw10.FlightSteps", spec := "flightSteps", unfollowed := true, recurses := true, apart := false }
def FlightStepsSaid : Prop := flightStepsRow.holds Try.pinned (OpenSpec.ofChange flightStepsSpec)

/-- ITS FALSE NEIGHBOUR: 'it returns false'. Refute it at one input. -/
def flightStepsWrong : ChangeSpec := { name := "flightSteps", fn := fun _ => fun
  | [d1, d2] => { results := [.lit (.bool false)], args := [d1, d2] }
  | _ => none }
def FlightStepsWrongFalsely : Prop := flightStepsRow.holds Try.pinned (OpenSpec.ofChange flightStepsWrong)

/- THE SECOND FORM. 'bulk': how many values and letters a reading holds, each counted each time it is reached (what is shared counts as often as it is met; a slice's spare places count too). A statement '..UptoSaid' is the law's where the arguments, and the package variables that the reading takes, are together of bulk at most 1048576: NARROWER than '..Said'. Prove '..Said' where nothing that the law and all that it calls make is longer than what came in: it says more and counts as full. Else prove '..UptoSaid'. A law counts once. -/
mutual
def uptoBulk {H : Type} : DataW H → Nat
  | .lit (.string bytes) => bytes.length + 1
  | .lit _ => 1
  | .nil => 1
  | .ptr d => uptoBulk d + 1
  | .slice elems spare => uptoBulkAll elems + uptoBulkAll spare + 1
  | .agg parts => uptoBulkAll parts + 1
  | .iface _ d => uptoBulk d + 1
  | .map entries => uptoBulkEntries entries + 1
  | .held _ => 1
def uptoBulkAll {H : Type} : List (DataW H) → Nat
  | [] => 0
  | d :: r => uptoBulk d + uptoBulkAll r
def uptoBulkEntries {H : Type} : List (Lit × DataW H) → Nat
  | [] => 0
  | x :: r => uptoBulkEntry x + uptoBulkEntries r
def uptoBulkEntry {H : Type} : Lit × DataW H → Nat
  | (.string bytes, d) => bytes.length + uptoBulk d + 1
  | (_, d) => uptoBulk d + 1
 end
def uptoSmall : (H : Type) → List (DataW H) → Bool := fun _ ds => decide (uptoBulkAll ds ≤ 1048576)
def OpenSpec.upto (s : _root_.Go.ChangeSpec) : _root_.Go.OpenSpec := { _root_.Go.OpenSpec.ofChange s with cond := some uptoSmall }

/-- 'pinballlaw10.FlightExact', WHERE WHAT IT READS IS OF BULK AT MOST 1048576: true; the input reads as it did. -/
def flightExactUptoRow : OpenClaim := { program := "ytmfmbglacebeiaa", sum := "891abd95f5ac39268fed48a3b348f237db7c29622773b976dd41270403279afe", func := "pinball/pinballlaw10.FlightExact", spec := "flightExact", unfollowed := true, recurses := true, apart := false, narrowed := true }
def FlightExactUptoSaid : Prop := flightExactUptoRow.holds Try.pinned (OpenSpec.upto flightExactSpec)

/-- 'pinballlaw10.FlightEnergy', WHERE WHAT IT READS IS OF BULK AT MOST 1048576: true; the input reads as it did. -/
def flightEnergyUptoRow : OpenClaim := { program := "ytmfmbglacebeiaa", sum := "891abd95f5ac39268fed48a3b348f237db7c29622773b976dd41270403279afe", func := "pinball/pinballlaw10.FlightEnergy", spec := "flightEnergy", unfollowed := true, recurses := true, apart := false, narrowed := true }
def FlightEnergyUptoSaid : Prop := flightEnergyUptoRow.holds Try.pinned (OpenSpec.upto flightEnergySpec)

/-- 'pinballlaw10.FlightPlaces', WHERE WHAT IT READS IS OF BULK AT MOST 1048576: true; the input reads as it did. -/
def flightPlacesUptoRow : OpenClaim := { program := "ytmfmbglacebeiaa", sum := "891abd95f5ac39268fed48a3b348f237db7c29622773b976dd41270403279afe", func := "pinball/pinballlaw10.FlightPlaces", spec := "flightPlaces", unfollowed := true, recurses := true, apart := false, narrowed := true }
def FlightPlacesUptoSaid : Prop := flightPlacesUptoRow.holds Try.pinned (OpenSpec.upto flightPlacesSpec)

/-- 'pinballlaw10.FlightSteps', WHERE WHAT IT READS IS OF BULK AT MOST 1048576: true; the input reads as it did. -/
def flightStepsUptoRow : OpenClaim := { program := "ytmfmbglacebeiaa", sum := "891abd95f5ac39268fed48a3b348f237db7c29622773b976dd41270403279afe", func := "pinball/pinballlaw10.FlightSteps", spec := "flightSteps", unfollowed := true, recurses := true, apart := false, narrowed := true }
def FlightStepsUptoSaid : Prop := flightStepsUptoRow.holds Try.pinned (OpenSpec.upto flightStepsSpec)

end Rows
end Go.Proofs.Ytmfmbglacebeiaa
