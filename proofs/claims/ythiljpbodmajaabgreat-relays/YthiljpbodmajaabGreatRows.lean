/-
  No cell of these rows narrows 'for every input' (looked for: loops, veiled, ifaces, maps, wideKeys, modest, calm, conditions, laid).
  DERIVED. THE GIVEN ROWS OF THIS SEAT. 7 by the template 'for every input the law returns true; each argument reads behind the call as it read before'; 0 by the template 'total and deterministic' (their statements: YthiljpbodmajaabGreatTotals.lean).
  GIVEN WITH THE SEED: the statements are not yours to turn. If you find one false, say at which input.
  Laid BY PROGRAM, IN A SANDBOX (cutbox-rows.mjs): the forced cells as the released guide's own fill.sh prints them over the translation d18acadd34e48a39… (all of the seat's roots in one cut). By AI agents, Wed Nov 11 2026. No macro, syntax, notation, axiom, sorry.
-/
import Derived.Test.YthiljpbodmajaabGreatChecked
import GoSem.Claim
import GoSem.ClaimJoined
import GoSem.ClaimMapViews
import Derived.JoinedTies
import Derived.KernelRfl
namespace Go.Proofs.YthiljpbodmajaabGreat
/- THE CELL 'sum', in the pinned program and in every row, IS THE sha256 OF THE DUMP (.gsa) THAT YthiljpbodmajaabGreatProg.lean LOADS. Nothing in Lean hashes anything: it is a label: what it is worth is what the hold of that sum in a sandbox is worth. -/
noncomputable def Tryz.pinned : Pinned := { name := "ythiljpbodmajaabgreat", sum := "d18acadd34e48a39db34e201221d8910d12d974b7e755c3cc824ac6744f45993", checked := Tryz.checked }
namespace Rows
def none {H : Type} : Left H := { results := [], args := [] }

/-- 'natboxkeep.Often': WHATEVER THE INPUT: true; the input reads as it did. -/
def oftenSpec : ChangeSpec := { name := "often", fn := fun _ => fun
  | [d1, d2, d3] => { results := [.lit (.bool true)], args := [d1, d2, d3] }
  | _ => none }
def oftenRow : OpenClaim := { program := "ythiljpbodmajaabgreat", sum := "d18acadd34e48a39db34e201221d8910d12d974b7e755c3cc824ac6744f45993", func := "natbox/natboxkeep.Often", spec := "often", apart := false }
def OftenSaid : Prop := oftenRow.holds Tryz.pinned (OpenSpec.ofChange oftenSpec)

/-- ITS FALSE NEIGHBOUR: 'it returns false'. Refute it at one input. -/
def oftenWrong : ChangeSpec := { name := "often", fn := fun _ => fun
  | [d1, d2, d3] => { results := [.lit (.bool false)], args := [d1, d2, d3] }
  | _ => none }
def OftenWrongFalsely : Prop := oftenRow.holds Tryz.pinned (OpenSpec.ofChange oftenWrong)

/-- 'natboxlaw.Relays': WHATEVER THE INPUT: true; the input reads as it did. -/
def relaysSpec : ChangeSpec := { name := "relays", fn := fun _ => fun
  | [d] => { results := [.lit (.bool true)], args := [d] }
  | _ => none }
def relaysRow : OpenClaim := { program := "ythiljpbodmajaabgreat", sum := "d18acadd34e48a39db34e201221d8910d12d974b7e755c3cc824ac6744f45993", func := "natbox/natboxlaw.Relays", spec := "relays", recurses := true, apart := false }
def RelaysSaid : Prop := relaysRow.holds Tryz.pinned (OpenSpec.ofChange relaysSpec)

/-- ITS FALSE NEIGHBOUR: 'it returns false'. Refute it at one input. -/
def relaysWrong : ChangeSpec := { name := "relays", fn := fun _ => fun
  | [d] => { results := [.lit (.bool false)], args := [d] }
  | _ => none }
def RelaysWrongFalsely : Prop := relaysRow.holds Tryz.pinned (OpenSpec.ofChange relaysWrong)

/-- 'natboxkeep.Undone': WHATEVER THE INPUT: true; the input reads as it did. -/
def undoneSpec : ChangeSpec := { name := "undone", fn := fun _ => fun
  | [d1, d2, d3, d4] => { results := [.lit (.bool true)], args := [d1, d2, d3, d4] }
  | _ => none }
def undoneRow : OpenClaim := { program := "ythiljpbodmajaabgreat", sum := "d18acadd34e48a39db34e201221d8910d12d974b7e755c3cc824ac6744f45993", func := "natbox/natboxkeep.Undone", spec := "undone", apart := false }
def UndoneSaid : Prop := undoneRow.holds Tryz.pinned (OpenSpec.ofChange undoneSpec)

/-- ITS FALSE NEIGHBOUR: 'it returns false'. Refute it at one input. -/
def undoneWrong : ChangeSpec := { name := "undone", fn := fun _ => fun
  | [d1, d2, d3, d4] => { results := [.lit (.bool false)], args := [d1, d2, d3, d4] }
  | _ => none }
def UndoneWrongFalsely : Prop := undoneRow.holds Tryz.pinned (OpenSpec.ofChange undoneWrong)

/-- 'natboxkeep.Told': WHATEVER THE INPUT: true; the input reads as it did. -/
def toldSpec : ChangeSpec := { name := "told", fn := fun _ => fun
  | [d1, d2, d3, d4] => { results := [.lit (.bool true)], args := [d1, d2, d3, d4] }
  | _ => none }
def toldRow : OpenClaim := { program := "ythiljpbodmajaabgreat", sum := "d18acadd34e48a39db34e201221d8910d12d974b7e755c3cc824ac6744f45993", func := "natbox/natboxkeep.Told", spec := "told", apart := false }
def ToldSaid : Prop := toldRow.holds Tryz.pinned (OpenSpec.ofChange toldSpec)

/-- ITS FALSE NEIGHBOUR: 'it returns false'. Refute it at one input. -/
def toldWrong : ChangeSpec := { name := "told", fn := fun _ => fun
  | [d1, d2, d3, d4] => { results := [.lit (.bool false)], args := [d1, d2, d3, d4] }
  | _ => none }
def ToldWrongFalsely : Prop := toldRow.holds Tryz.pinned (OpenSpec.ofChange toldWrong)

/-- 'natboxkeep.Mirror': WHATEVER THE INPUT: true; the input reads as it did. -/
def mirrorSpec : ChangeSpec := { name := "mirror", fn := fun _ => fun
  | [d1, d2, d3, d4] => { results := [.lit (.bool true)], args := [d1, d2, d3, d4] }
  | _ => none }
def mirrorRow : OpenClaim := { program := "ythiljpbodmajaabgreat", sum := "d18acadd34e48a39db34e201221d8910d12d974b7e755c3cc824ac6744f45993", func := "natbox/natboxkeep.Mirror", spec := "mirror", apart := false }
def MirrorSaid : Prop := mirrorRow.holds Tryz.pinned (OpenSpec.ofChange mirrorSpec)

/-- ITS FALSE NEIGHBOUR: 'it returns false'. Refute it at one input. -/
def mirrorWrong : ChangeSpec := { name := "mirror", fn := fun _ => fun
  | [d1, d2, d3, d4] => { results := [.lit (.bool false)], args := [d1, d2, d3, d4] }
  | _ => none }
def MirrorWrongFalsely : Prop := mirrorRow.holds Tryz.pinned (OpenSpec.ofChange mirrorWrong)

/-- 'natboxkeep.Sound': WHATEVER THE INPUT: true; the input reads as it did. -/
def soundSpec : ChangeSpec := { name := "sound", fn := fun _ => fun
  | [d1, d2, d3] => { results := [.lit (.bool true)], args := [d1, d2, d3] }
  | _ => none }
def soundRow : OpenClaim := { program := "ythiljpbodmajaabgreat", sum := "d18acadd34e48a39db34e201221d8910d12d974b7e755c3cc824ac6744f45993", func := "natbox/natboxkeep.Sound", spec := "sound", apart := false }
def SoundSaid : Prop := soundRow.holds Tryz.pinned (OpenSpec.ofChange soundSpec)

/-- ITS FALSE NEIGHBOUR: 'it returns false'. Refute it at one input. -/
def soundWrong : ChangeSpec := { name := "sound", fn := fun _ => fun
  | [d1, d2, d3] => { results := [.lit (.bool false)], args := [d1, d2, d3] }
  | _ => none }
def SoundWrongFalsely : Prop := soundRow.holds Tryz.pinned (OpenSpec.ofChange soundWrong)

/-- 'natboxlaw.All': WHATEVER THE INPUT: true; the input reads as it did. -/
def allSpec : ChangeSpec := { name := "all", fn := fun _ => fun
  | [d] => { results := [.lit (.bool true)], args := [d] }
  | _ => none }
def allRow : OpenClaim := { program := "ythiljpbodmajaabgreat", sum := "d18acadd34e48a39db34e201221d8910d12d974b7e755c3cc824ac6744f45993", func := "natbox/natboxlaw.All", spec := "all", recurses := true, apart := false }
def AllSaid : Prop := allRow.holds Tryz.pinned (OpenSpec.ofChange allSpec)

/-- ITS FALSE NEIGHBOUR: 'it returns false'. Refute it at one input. -/
def allWrong : ChangeSpec := { name := "all", fn := fun _ => fun
  | [d] => { results := [.lit (.bool false)], args := [d] }
  | _ => none }
def AllWrongFalsely : Prop := allRow.holds Tryz.pinned (OpenSpec.ofChange allWrong)

/- THE SECOND FORM. 'bulk': how many values and letters a reading holds, each counted each time it is reached (what is shared counts as often as it is met; a slice's spare places count too). A statement '..UptoSaid' is the law's where the arguments, and the package variables that the reading takes, are together of bulk at most 1048576: NARROWER than '..Said'. Prove '..Said' where nothing that the law and all that it calls make is longer than what came in: it says more and counts as full. Else prove '..UptoSaid'. A law counts once. -/
mutual
def uptoBulk {H : Type} : DataW H → Nat
  | .lit (.string bytes) => bytes.length + 1
  | .lit _ => 1
  | .nil => 1
  | .ptr d => uptoBulk d + 1
  | .slice elems spare => uptoBulkAll elems + uptoBulkAll spare + 1
  | .agg parts => uptoBulkAll parts + 1
  | .iface _ d => uptoBulk d + 1
  | .map entries => uptoBulkEntries entries + 1
  | .held _ => 1
def uptoBulkAll {H : Type} : List (DataW H) → Nat
  | [] => 0
  | d :: r => uptoBulk d + uptoBulkAll r
def uptoBulkEntries {H : Type} : List (Lit × DataW H) → Nat
  | [] => 0
  | x :: r => uptoBulkEntry x + uptoBulkEntries r
def uptoBulkEntry {H : Type} : Lit × DataW H → Nat
  | (.string bytes, d) => bytes.length + uptoBulk d + 1
  | (_, d) => uptoBulk d + 1
 end
def uptoSmall : (H : Type) → List (DataW H) → Bool := fun _ ds => decide (uptoBulkAll ds ≤ 1048576)
def OpenSpec.upto (s : _root_.Go.ChangeSpec) : _root_.Go.OpenSpec := { _root_.Go.OpenSpec.ofChange s with cond := some uptoSmall }

/-- 'natboxkeep.Often', WHERE WHAT IT READS IS OF BULK AT MOST 1048576: true; the input reads as it did. -/
def oftenUptoRow : OpenClaim := { program := "ythiljpbodmajaabgreat", sum := "d18acadd34e48a39db34e201221d8910d12d974b7e755c3cc824ac6744f45993", func := "natbox/natboxkeep.Often", spec := "often", apart := false, narrowed := true }
def OftenUptoSaid : Prop := oftenUptoRow.holds Tryz.pinned (OpenSpec.upto oftenSpec)

/-- 'natboxlaw.Relays', WHERE WHAT IT READS IS OF BULK AT MOST 1048576: true; the input reads as it did. -/
def relaysUptoRow : OpenClaim := { program := "ythiljpbodmajaabgreat", sum := "d18acadd34e48a39db34e201221d8910d12d974b7e755c3cc824ac6744f45993", func := "natbox/natboxlaw.Relays", spec := "relays", recurses := true, apart := false, narrowed := true }
def RelaysUptoSaid : Prop := relaysUptoRow.holds Tryz.pinned (OpenSpec.upto relaysSpec)

/-- 'natboxkeep.Undone', WHERE WHAT IT READS IS OF BULK AT MOST 1048576: true; the input reads as it did. -/
def undoneUptoRow : OpenClaim := { program := "ythiljpbodmajaabgreat", sum := "d18acadd34e48a39db34e201221d8910d12d974b7e755c3cc824ac6744f45993", func := "natbox/natboxkeep.Undone", spec := "undone", apart := false, narrowed := true }
def UndoneUptoSaid : Prop := undoneUptoRow.holds Tryz.pinned (OpenSpec.upto undoneSpec)

/-- 'natboxkeep.Told', WHERE WHAT IT READS IS OF BULK AT MOST 1048576: true; the input reads as it did. -/
def toldUptoRow : OpenClaim := { program := "ythiljpbodmajaabgreat", sum := "d18acadd34e48a39db34e201221d8910d12d974b7e755c3cc824ac6744f45993", func := "natbox/natboxkeep.Told", spec := "told", apart := false, narrowed := true }
def ToldUptoSaid : Prop := toldUptoRow.holds Tryz.pinned (OpenSpec.upto toldSpec)

/-- 'natboxkeep.Mirror', WHERE WHAT IT READS IS OF BULK AT MOST 1048576: true; the input reads as it did. -/
def mirrorUptoRow : OpenClaim := { program := "ythiljpbodmajaabgreat", sum := "d18acadd34e48a39db34e201221d8910d12d974b7e755c3cc824ac6744f45993", func := "natbox/natboxkeep.Mirror", spec := "mirror", apart := false, narrowed := true }
def MirrorUptoSaid : Prop := mirrorUptoRow.holds Tryz.pinned (OpenSpec.upto mirrorSpec)

/-- 'natboxkeep.Sound', WHERE WHAT IT READS IS OF BULK AT MOST 1048576: true; the input reads as it did. -/
def soundUptoRow : OpenClaim := { program := "ythiljpbodmajaabgreat", sum := "d18acadd34e48a39db34e201221d8910d12d974b7e755c3cc824ac6744f45993", func := "natbox/natboxkeep.Sound", spec := "sound", apart := false, narrowed := true }
def SoundUptoSaid : Prop := soundUptoRow.holds Tryz.pinned (OpenSpec.upto soundSpec)

/-- 'natboxlaw.All', WHERE WHAT IT READS IS OF BULK AT MOST 1048576: true; the input reads as it did. -/
def allUptoRow : OpenClaim := { program := "ythiljpbodmajaabgreat", sum := "d18acadd34e48a39db34e201221d8910d12d974b7e755c3cc824ac6744f45993", func := "natbox/natboxlaw.All", spec := "all", recurses := true, apart := false, narrowed := true }
def AllUptoSaid : Prop := allUptoRow.holds Tryz.pinned (OpenSpec.upto allSpec)

end Rows
end Go.Proofs.YthiljpbodmajaabGreat
