/-
  NARROWER THAN 'FOR EVERY INPUT', by the rows' own cells (each row's printed sentence says how): TypesInstance: loops · TypesApply: loops.
  DERIVED. THE GIVEN ROWS OF THIS SEAT. 3 by the template 'for every input the law returns true; each argument reads behind the call as it read before'; 0 by the template 'total and deterministic' (their statements: YthcejnpknjepfaaGreatTotals.lean).
  GIVEN WITH THE SEED: the statements are not yours to turn. If you find one false, say at which input.
  Laid BY PROGRAM, IN A SANDBOX (cutbox-rows.mjs): the forced cells as the released guide's own fill.sh prints them over the translation f8b8f11742dc2599… (all of the seat's roots in one cut). By AI agents, Wed Nov 11 2026. No macro, syntax, notation, axiom, sorry.
-/
import Derived.Test.YthcejnpknjepfaaGreatChecked
import GoSem.Claim
import GoSem.ClaimJoined
import GoSem.ClaimMapViews
import Derived.JoinedTies
import Derived.KernelRfl
namespace Go.Proofs.YthcejnpknjepfaaGreat
/- THE CELL 'sum', in the pinned program and in every row, IS THE sha256 OF THE DUMP (.gsa) THAT YthcejnpknjepfaaGreatProg.lean LOADS. Nothing in Lean hashes anything: it is a label: what it is worth is what the hold of that sum in a sandbox is worth. -/
noncomputable def Tryz.pinned : Pinned := { name := "ythcejnpknjepfaagreat", sum := "f8b8f11742dc25996482b1b8689d64264b6f14966b2125722b1a3d37d804f43f", checked := Tryz.checked }
namespace Rows
def none {H : Type} : Left H := { results := [], args := [] }

/-- 'slothlaw05.TypesRead': WHATEVER THE INPUT: true; the input reads as it did. -/
def typesReadSpec : ChangeSpec := { name := "typesRead", fn := fun _ => fun
  | [d1, d2] => { results := [.lit (.bool true)], args := [d1, d2] }
  | _ => none }
def typesReadRow : OpenClaim := { program := "ythcejnpknjepfaagreat", sum := "f8b8f11742dc25996482b1b8689d64264b6f14966b2125722b1a3d37d804f43f", func := "sloth/slothlaw05.TypesRead", spec := "typesRead", inPlace := ["internal/bytealg.IndexByteString", "internal/bytealg.IndexString", "internal/abi.NoEscape"], unfollowed := true, recurses := true, named := ["internal/bytealg.MaxLen"], apart := false }
def TypesReadSaid : Prop := typesReadRow.holds Tryz.pinned (OpenSpec.ofChange typesReadSpec)

/-- ITS FALSE NEIGHBOUR: 'it returns false'. Refute it at one input. -/
def typesReadWrong : ChangeSpec := { name := "typesRead", fn := fun _ => fun
  | [d1, d2] => { results := [.lit (.bool false)], args := [d1, d2] }
  | _ => none }
def TypesReadWrongFalsely : Prop := typesReadRow.holds Tryz.pinned (OpenSpec.ofChange typesReadWrong)

/-- 'slothlaw05.TypesInstance': WHATEVER THE INPUT: true; the input reads as it did. -/
def typesInstanceSpec : ChangeSpec := { name := "typesInstance", fn := fun _ => fun
  | [d1, d2] => { results := [.lit (.bool true)], args := [d1, d2] }
  | _ => none }
def typesInstanceRow : OpenClaim := { program := "ythcejnpknjepfaagreat", sum := "f8b8f11742dc25996482b1b8689d64264b6f14966b2125722b1a3d37d804f43f", func := "sloth/slothlaw05.TypesInstance", spec := "typesInstance", inPlace := ["internal/bytealg.IndexByteString", "internal/bytealg.IndexString", "internal/abi.NoEscape"], unfollowed := true, recurses := true, named := ["internal/bytealg.MaxLen"], loops := true, apart := false }
def TypesInstanceSaid : Prop := typesInstanceRow.holds Tryz.pinned (OpenSpec.ofChange typesInstanceSpec)

/-- ITS FALSE NEIGHBOUR: 'it returns false'. Refute it at one input. -/
def typesInstanceWrong : ChangeSpec := { name := "typesInstance", fn := fun _ => fun
  | [d1, d2] => { results := [.lit (.bool false)], args := [d1, d2] }
  | _ => none }
def TypesInstanceWrongFalsely : Prop := typesInstanceRow.holds Tryz.pinned (OpenSpec.ofChange typesInstanceWrong)

/-- 'slothlaw05.TypesApply': WHATEVER THE INPUT: true; the input reads as it did. -/
def typesApplySpec : ChangeSpec := { name := "typesApply", fn := fun _ => fun
  | [d1, d2, d3] => { results := [.lit (.bool true)], args := [d1, d2, d3] }
  | _ => none }
def typesApplyRow : OpenClaim := { program := "ythcejnpknjepfaagreat", sum := "f8b8f11742dc25996482b1b8689d64264b6f14966b2125722b1a3d37d804f43f", func := "sloth/slothlaw05.TypesApply", spec := "typesApply", inPlace := ["internal/bytealg.IndexByteString", "internal/bytealg.IndexString", "internal/abi.NoEscape"], unfollowed := true, recurses := true, named := ["internal/bytealg.MaxLen"], loops := true, apart := false }
def TypesApplySaid : Prop := typesApplyRow.holds Tryz.pinned (OpenSpec.ofChange typesApplySpec)

/-- ITS FALSE NEIGHBOUR: 'it returns false'. Refute it at one input. -/
def typesApplyWrong : ChangeSpec := { name := "typesApply", fn := fun _ => fun
  | [d1, d2, d3] => { results := [.lit (.bool false)], args := [d1, d2, d3] }
  | _ => none }
def TypesApplyWrongFalsely : Prop := typesApplyRow.holds Tryz.pinned (OpenSpec.ofChange typesApplyWrong)

/- THE SECOND FORM. 'bulk': how many values and letters a reading holds, each counted each time it is reached (what is shared counts as often as it is met; a slice's spare places count too). A statement '..UptoSaid' is the law's where the arguments, and the package variables that the reading takes, are together of bulk at most 1048576: NARROWER than '..Said'. Prove '..Said' where nothing that the law and all that it calls make is longer than what came in: it says more and counts as full. Else prove '..UptoSaid'. A law counts once. -/
mutual
def uptoBulk {H : Type} : DataW H → Nat
  | .lit (.string bytes) => bytes.length + 1
  | .lit _ => 1
  | .nil => 1
  | .ptr d => uptoBulk d + 1
  | .slice elems spare => uptoBulkAll elems + uptoBulkAll spare + 1
  | .agg parts => uptoBulkAll parts + 1
  | .iface _ d => uptoBulk d + 1
  | .map entries => uptoBulkEntries entries + 1
  | .held _ => 1
def uptoBulkAll {H : Type} : List (DataW H) → Nat
  | [] => 0
  | d :: r => uptoBulk d + uptoBulkAll r
def uptoBulkEntries {H : Type} : List (Lit × DataW H) → Nat
  | [] => 0
  | x :: r => uptoBulkEntry x + uptoBulkEntries r
def uptoBulkEntry {H : Type} : Lit × DataW H → Nat
  | (.string bytes, d) => bytes.length + uptoBulk d + 1
  | (_, d) => uptoBulk d + 1
 end
def uptoSmall : (H : Type) → List (DataW H) → Bool := fun _ ds => decide (uptoBulkAll ds ≤ 1048576)
def OpenSpec.upto (s : _root_.Go.ChangeSpec) : _root_.Go.OpenSpec := { _root_.Go.OpenSpec.ofChange s with cond := some uptoSmall }

/-- 'slothlaw05.TypesRead', WHERE WHAT IT READS IS OF BULK AT MOST 1048576: true; the input reads as it did. -/
def typesReadUptoRow : OpenClaim := { program := "ythcejnpknjepfaagreat", sum := "f8b8f11742dc25996482b1b8689d64264b6f14966b2125722b1a3d37d804f43f", func := "sloth/slothlaw05.TypesRead", spec := "typesRead", inPlace := ["internal/bytealg.IndexByteString", "internal/bytealg.IndexString", "internal/abi.NoEscape"], unfollowed := true, recurses := true, named := ["internal/bytealg.MaxLen"], apart := false, narrowed := true }
def TypesReadUptoSaid : Prop := typesReadUptoRow.holds Tryz.pinned (OpenSpec.upto typesReadSpec)

/-- 'slothlaw05.TypesInstance', WHERE WHAT IT READS IS OF BULK AT MOST 1048576: true; the input reads as it did. -/
def typesInstanceUptoRow : OpenClaim := { program := "ythcejnpknjepfaagreat", sum := "f8b8f11742dc25996482b1b8689d64264b6f14966b2125722b1a3d37d804f43f", func := "sloth/slothlaw05.TypesInstance", spec := "typesInstance", inPlace := ["internal/bytealg.IndexByteString", "internal/bytealg.IndexString", "internal/abi.NoEscape"], unfollowed := true, recurses := true, named := ["internal/bytealg.MaxLen"], loops := true, apart := false, narrowed := true }
def TypesInstanceUptoSaid : Prop := typesInstanceUptoRow.holds Tryz.pinned (OpenSpec.upto typesInstanceSpec)

/-- 'slothlaw05.TypesApply', WHERE WHAT IT READS IS OF BULK AT MOST 1048576: true; the input reads as it did. -/
def typesApplyUptoRow : OpenClaim := { program := "ythcejnpknjepfaagreat", sum := "f8b8f11742dc25996482b1b8689d64264b6f14966b2125722b1a3d37d804f43f", func := "sloth/slothlaw05.TypesApply", spec := "typesApply", inPlace := ["internal/bytealg.IndexByteString", "internal/bytealg.IndexString", "internal/abi.NoEscape"], unfollowed := true, recurses := true, named := ["internal/bytealg.MaxLen"], loops := true, apart := false, narrowed := true }
def TypesApplyUptoSaid : Prop := typesApplyUptoRow.holds Tryz.pinned (OpenSpec.upto typesApplySpec)

end Rows
end Go.Proofs.YthcejnpknjepfaaGreat
