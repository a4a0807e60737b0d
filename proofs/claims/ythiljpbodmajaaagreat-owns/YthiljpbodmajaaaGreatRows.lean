/-
  No cell of these rows narrows 'for every input' (looked for: loops, veiled, ifaces, maps, wideKeys, modest, calm, conditions, laid).
  DERIVED. THE GIVEN ROWS OF THIS SEAT. 8 by the template 'for every input the law returns true; each argument reads behind the call as it read before'; 0 by the template 'total and deterministic' (their statements: YthiljpbodmajaaaGreatTotals.lean).
  GIVEN WITH THE SEED: the statements are not yours to turn. If you find one false, say at which input.
  Laid BY PROGRAM, IN A SANDBOX (cutbox-rows.mjs): the forced cells as the released guide's own fill.sh prints them over the translation ea4e5b68a88e6eaa… (all of the seat's roots in one cut). By AI agents, Wed Nov 11 2026. No macro, syntax, notation, axiom, sorry.
-/
import Derived.Test.YthiljpbodmajaaaGreatChecked
import GoSem.Claim
import GoSem.ClaimJoined
import GoSem.ClaimMapViews
import Derived.JoinedTies
import Derived.KernelRfl
namespace Go.Proofs.YthiljpbodmajaaaGreat
/- THE CELL 'sum', in the pinned program and in every row, IS THE sha256 OF THE DUMP (.gsa) THAT YthiljpbodmajaaaGreatProg.lean LOADS. Nothing in Lean hashes anything: it is a label: what it is worth is what the hold of that sum in a sandbox is worth. -/
noncomputable def Tryz.pinned : Pinned := { name := "ythiljpbodmajaaagreat", sum := "ea4e5b68a88e6eaa235cddbf2d7b2b4164051e46fe73a6a202168404e06d48ed", checked := Tryz.checked }
namespace Rows
def none {H : Type} : Left H := { results := [], args := [] }

/-- 'natboxlaw.Passes': WHATEVER THE INPUT: true; the input reads as it did. -/
def passesSpec : ChangeSpec := { name := "passes", fn := fun _ => fun
  | [d] => { results := [.lit (.bool true)], args := [d] }
  | _ => none }
def passesRow : OpenClaim := { program := "ythiljpbodmajaaagreat", sum := "ea4e5b68a88e6eaa235cddbf2d7b2b4164051e46fe73a6a202168404e06d48ed", func := "natbox/natboxlaw.Passes", spec := "passes", recurses := true, apart := false }
def PassesSaid : Prop := passesRow.holds Tryz.pinned (OpenSpec.ofChange passesSpec)

/-- ITS FALSE NEIGHBOUR: 'it returns false'. Refute it at one input. -/
def passesWrong : ChangeSpec := { name := "passes", fn := fun _ => fun
  | [d] => { results := [.lit (.bool false)], args := [d] }
  | _ => none }
def PassesWrongFalsely : Prop := passesRow.holds Tryz.pinned (OpenSpec.ofChange passesWrong)

/-- 'natboxkeep.There': WHATEVER THE INPUT: true; the input reads as it did. -/
def thereSpec : ChangeSpec := { name := "there", fn := fun _ => fun
  | [d1, d2] => { results := [.lit (.bool true)], args := [d1, d2] }
  | _ => none }
def thereRow : OpenClaim := { program := "ythiljpbodmajaaagreat", sum := "ea4e5b68a88e6eaa235cddbf2d7b2b4164051e46fe73a6a202168404e06d48ed", func := "natbox/natboxkeep.There", spec := "there", apart := false }
def ThereSaid : Prop := thereRow.holds Tryz.pinned (OpenSpec.ofChange thereSpec)

/-- ITS FALSE NEIGHBOUR: 'it returns false'. Refute it at one input. -/
def thereWrong : ChangeSpec := { name := "there", fn := fun _ => fun
  | [d1, d2] => { results := [.lit (.bool false)], args := [d1, d2] }
  | _ => none }
def ThereWrongFalsely : Prop := thereRow.holds Tryz.pinned (OpenSpec.ofChange thereWrong)

/-- 'natboxkeep.Home': WHATEVER THE INPUT: true; the input reads as it did. -/
def homeSpec : ChangeSpec := { name := "home", fn := fun _ => fun
  | [d1, d2, d3, d4] => { results := [.lit (.bool true)], args := [d1, d2, d3, d4] }
  | _ => none }
def homeRow : OpenClaim := { program := "ythiljpbodmajaaagreat", sum := "ea4e5b68a88e6eaa235cddbf2d7b2b4164051e46fe73a6a202168404e06d48ed", func := "natbox/natboxkeep.Home", spec := "home", apart := false }
def HomeSaid : Prop := homeRow.holds Tryz.pinned (OpenSpec.ofChange homeSpec)

/-- ITS FALSE NEIGHBOUR: 'it returns false'. Refute it at one input. -/
def homeWrong : ChangeSpec := { name := "home", fn := fun _ => fun
  | [d1, d2, d3, d4] => { results := [.lit (.bool false)], args := [d1, d2, d3, d4] }
  | _ => none }
def HomeWrongFalsely : Prop := homeRow.holds Tryz.pinned (OpenSpec.ofChange homeWrong)

/-- 'natboxkeep.Again': WHATEVER THE INPUT: true; the input reads as it did. -/
def againSpec : ChangeSpec := { name := "again", fn := fun _ => fun
  | [d1, d2, d3, d4] => { results := [.lit (.bool true)], args := [d1, d2, d3, d4] }
  | _ => none }
def againRow : OpenClaim := { program := "ythiljpbodmajaaagreat", sum := "ea4e5b68a88e6eaa235cddbf2d7b2b4164051e46fe73a6a202168404e06d48ed", func := "natbox/natboxkeep.Again", spec := "again", apart := false }
def AgainSaid : Prop := againRow.holds Tryz.pinned (OpenSpec.ofChange againSpec)

/-- ITS FALSE NEIGHBOUR: 'it returns false'. Refute it at one input. -/
def againWrong : ChangeSpec := { name := "again", fn := fun _ => fun
  | [d1, d2, d3, d4] => { results := [.lit (.bool false)], args := [d1, d2, d3, d4] }
  | _ => none }
def AgainWrongFalsely : Prop := againRow.holds Tryz.pinned (OpenSpec.ofChange againWrong)

/-- 'natboxkeep.Strangers': WHATEVER THE INPUT: true; the input reads as it did. -/
def strangersSpec : ChangeSpec := { name := "strangers", fn := fun _ => fun
  | [d1, d2, d3, d4] => { results := [.lit (.bool true)], args := [d1, d2, d3, d4] }
  | _ => none }
def strangersRow : OpenClaim := { program := "ythiljpbodmajaaagreat", sum := "ea4e5b68a88e6eaa235cddbf2d7b2b4164051e46fe73a6a202168404e06d48ed", func := "natbox/natboxkeep.Strangers", spec := "strangers", apart := false }
def StrangersSaid : Prop := strangersRow.holds Tryz.pinned (OpenSpec.ofChange strangersSpec)

/-- ITS FALSE NEIGHBOUR: 'it returns false'. Refute it at one input. -/
def strangersWrong : ChangeSpec := { name := "strangers", fn := fun _ => fun
  | [d1, d2, d3, d4] => { results := [.lit (.bool false)], args := [d1, d2, d3, d4] }
  | _ => none }
def StrangersWrongFalsely : Prop := strangersRow.holds Tryz.pinned (OpenSpec.ofChange strangersWrong)

/-- 'natboxkeep.Fades': WHATEVER THE INPUT: true; the input reads as it did. -/
def fadesSpec : ChangeSpec := { name := "fades", fn := fun _ => fun
  | [d1, d2, d3, d4] => { results := [.lit (.bool true)], args := [d1, d2, d3, d4] }
  | _ => none }
def fadesRow : OpenClaim := { program := "ythiljpbodmajaaagreat", sum := "ea4e5b68a88e6eaa235cddbf2d7b2b4164051e46fe73a6a202168404e06d48ed", func := "natbox/natboxkeep.Fades", spec := "fades", apart := false }
def FadesSaid : Prop := fadesRow.holds Tryz.pinned (OpenSpec.ofChange fadesSpec)

/-- ITS FALSE NEIGHBOUR: 'it returns false'. Refute it at one input. -/
def fadesWrong : ChangeSpec := { name := "fades", fn := fun _ => fun
  | [d1, d2, d3, d4] => { results := [.lit (.bool false)], args := [d1, d2, d3, d4] }
  | _ => none }
def FadesWrongFalsely : Prop := fadesRow.holds Tryz.pinned (OpenSpec.ofChange fadesWrong)

/-- 'natboxkeep.Rooms': WHATEVER THE INPUT: true; the input reads as it did. -/
def roomsSpec : ChangeSpec := { name := "rooms", fn := fun _ => fun
  | [d1, d2, d3] => { results := [.lit (.bool true)], args := [d1, d2, d3] }
  | _ => none }
def roomsRow : OpenClaim := { program := "ythiljpbodmajaaagreat", sum := "ea4e5b68a88e6eaa235cddbf2d7b2b4164051e46fe73a6a202168404e06d48ed", func := "natbox/natboxkeep.Rooms", spec := "rooms", apart := false }
def RoomsSaid : Prop := roomsRow.holds Tryz.pinned (OpenSpec.ofChange roomsSpec)

/-- ITS FALSE NEIGHBOUR: 'it returns false'. Refute it at one input. -/
def roomsWrong : ChangeSpec := { name := "rooms", fn := fun _ => fun
  | [d1, d2, d3] => { results := [.lit (.bool false)], args := [d1, d2, d3] }
  | _ => none }
def RoomsWrongFalsely : Prop := roomsRow.holds Tryz.pinned (OpenSpec.ofChange roomsWrong)

/-- 'natboxlaw.Owns': WHATEVER THE INPUT: true; the input reads as it did. -/
def ownsSpec : ChangeSpec := { name := "owns", fn := fun _ => fun
  | [d] => { results := [.lit (.bool true)], args := [d] }
  | _ => none }
def ownsRow : OpenClaim := { program := "ythiljpbodmajaaagreat", sum := "ea4e5b68a88e6eaa235cddbf2d7b2b4164051e46fe73a6a202168404e06d48ed", func := "natbox/natboxlaw.Owns", spec := "owns", recurses := true, apart := false }
def OwnsSaid : Prop := ownsRow.holds Tryz.pinned (OpenSpec.ofChange ownsSpec)

/-- ITS FALSE NEIGHBOUR: 'it returns false'. Refute it at one input. -/
def ownsWrong : ChangeSpec := { name := "owns", fn := fun _ => fun
  | [d] => { results := [.lit (.bool false)], args := [d] }
  | _ => none }
def OwnsWrongFalsely : Prop := ownsRow.holds Tryz.pinned (OpenSpec.ofChange ownsWrong)

/- THE SECOND FORM. 'bulk': how many values and letters a reading holds, each counted each time it is reached (what is shared counts as often as it is met; a slice's spare places count too). A statement '..UptoSaid' is the law's where the arguments, and the package variables that the reading takes, are together of bulk at most 1048576: NARROWER than '..Said'. Prove '..Said' where nothing that the law and all that it calls make is longer than what came in: it says more and counts as full. Else prove '..UptoSaid'. A law counts once. -/
mutual
def uptoBulk {H : Type} : DataW H → Nat
  | .lit (.string bytes) => bytes.length + 1
  | .lit _ => 1
  | .nil => 1
  | .ptr d => uptoBulk d + 1
  | .slice elems spare => uptoBulkAll elems + uptoBulkAll spare + 1
  | .agg parts => uptoBulkAll parts + 1
  | .iface _ d => uptoBulk d + 1
  | .map entries => uptoBulkEntries entries + 1
  | .held _ => 1
def uptoBulkAll {H : Type} : List (DataW H) → Nat
  | [] => 0
  | d :: r => uptoBulk d + uptoBulkAll r
def uptoBulkEntries {H : Type} : List (Lit × DataW H) → Nat
  | [] => 0
  | x :: r => uptoBulkEntry x + uptoBulkEntries r
def uptoBulkEntry {H : Type} : Lit × DataW H → Nat
  | (.string bytes, d) => bytes.length + uptoBulk d + 1
  | (_, d) => uptoBulk d + 1
 end
def uptoSmall : (H : Type) → List (DataW H) → Bool := fun _ ds => decide (uptoBulkAll ds ≤ 1048576)
def OpenSpec.upto (s : _root_.Go.ChangeSpec) : _root_.Go.OpenSpec := { _root_.Go.OpenSpec.ofChange s with cond := some uptoSmall }

/-- 'natboxlaw.Passes', WHERE WHAT IT READS IS OF BULK AT MOST 1048576: true; the input reads as it did. -/
def passesUptoRow : OpenClaim := { program := "ythiljpbodmajaaagreat", sum := "ea4e5b68a88e6eaa235cddbf2d7b2b4164051e46fe73a6a202168404e06d48ed", func := "natbox/natboxlaw.Passes", spec := "passes", recurses := true, apart := false, narrowed := true }
def PassesUptoSaid : Prop := passesUptoRow.holds Tryz.pinned (OpenSpec.upto passesSpec)

/-- 'natboxkeep.There', WHERE WHAT IT READS IS OF BULK AT MOST 1048576: true; the input reads as it did. -/
def thereUptoRow : OpenClaim := { program := "ythiljpbodmajaaagreat", sum := "ea4e5b68a88e6eaa235cddbf2d7b2b4164051e46fe73a6a202168404e06d48ed", func := "natbox/natboxkeep.There", spec := "there", apart := false, narrowed := true }
def ThereUptoSaid : Prop := thereUptoRow.holds Tryz.pinned (OpenSpec.upto thereSpec)

/-- 'natboxkeep.Home', WHERE WHAT IT READS IS OF BULK AT MOST 1048576: true; the input reads as it did. -/
def homeUptoRow : OpenClaim := { program := "ythiljpbodmajaaagreat", sum := "ea4e5b68a88e6eaa235cddbf2d7b2b4164051e46fe73a6a202168404e06d48ed", func := "natbox/natboxkeep.Home", spec := "home", apart := false, narrowed := true }
def HomeUptoSaid : Prop := homeUptoRow.holds Tryz.pinned (OpenSpec.upto homeSpec)

/-- 'natboxkeep.Again', WHERE WHAT IT READS IS OF BULK AT MOST 1048576: true; the input reads as it did. -/
def againUptoRow : OpenClaim := { program := "ythiljpbodmajaaagreat", sum := "ea4e5b68a88e6eaa235cddbf2d7b2b4164051e46fe73a6a202168404e06d48ed", func := "natbox/natboxkeep.Again", spec := "again", apart := false, narrowed := true }
def AgainUptoSaid : Prop := againUptoRow.holds Tryz.pinned (OpenSpec.upto againSpec)

/-- 'natboxkeep.Strangers', WHERE WHAT IT READS IS OF BULK AT MOST 1048576: true; the input reads as it did. -/
def strangersUptoRow : OpenClaim := { program := "ythiljpbodmajaaagreat", sum := "ea4e5b68a88e6eaa235cddbf2d7b2b4164051e46fe73a6a202168404e06d48ed", func := "natbox/natboxkeep.Strangers", spec := "strangers", apart := false, narrowed := true }
def StrangersUptoSaid : Prop := strangersUptoRow.holds Tryz.pinned (OpenSpec.upto strangersSpec)

/-- 'natboxkeep.Fades', WHERE WHAT IT READS IS OF BULK AT MOST 1048576: true; the input reads as it did. -/
def fadesUptoRow : OpenClaim := { program := "ythiljpbodmajaaagreat", sum := "ea4e5b68a88e6eaa235cddbf2d7b2b4164051e46fe73a6a202168404e06d48ed", func := "natbox/natboxkeep.Fades", spec := "fades", apart := false, narrowed := true }
def FadesUptoSaid : Prop := fadesUptoRow.holds Tryz.pinned (OpenSpec.upto fadesSpec)

/-- 'natboxkeep.Rooms', WHERE WHAT IT READS IS OF BULK AT MOST 1048576: true; the input reads as it did. -/
def roomsUptoRow : OpenClaim := { program := "ythiljpbodmajaaagreat", sum := "ea4e5b68a88e6eaa235cddbf2d7b2b4164051e46fe73a6a202168404e06d48ed", func := "natbox/natboxkeep.Rooms", spec := "rooms", apart := false, narrowed := true }
def RoomsUptoSaid : Prop := roomsUptoRow.holds Tryz.pinned (OpenSpec.upto roomsSpec)

/-- 'natboxlaw.Owns', WHERE WHAT IT READS IS OF BULK AT MOST 1048576: true; the input reads as it did. -/
def ownsUptoRow : OpenClaim := { program := "ythiljpbodmajaaagreat", sum := "ea4e5b68a88e6eaa235cddbf2d7b2b4164051e46fe73a6a202168404e06d48ed", func := "natbox/natboxlaw.Owns", spec := "owns", recurses := true, apart := false, narrowed := true }
def OwnsUptoSaid : Prop := ownsUptoRow.holds Tryz.pinned (OpenSpec.upto ownsSpec)

end Rows
end Go.Proofs.YthiljpbodmajaaaGreat
