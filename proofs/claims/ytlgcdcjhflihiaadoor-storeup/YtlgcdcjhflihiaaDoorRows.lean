/-
  NARROWER THAN 'FOR EVERY INPUT', by the rows' own cells (each row's printed sentence says how): StoreNew: laid · StoreUp: laid · StoreFills: laid · StoreTurned: laid · StoreFolds: laid.
  DERIVED. THE GIVEN ROWS OF THIS SEAT. 5 by the template 'for every input the law returns true; each argument reads behind the call as it read before'; 0 by the template 'total and deterministic' (their statements: YtlgcdcjhflihiaaDoorTotals.lean).
  GIVEN WITH THE SEED: the statements are not yours to turn. If you find one false, say at which input.
  Laid BY PROGRAM, IN A SANDBOX (cutbox-rows.mjs): the forced cells as the released guide's own fill.sh prints them over the translation fca3502c9f7cb1db… (all of the seat's roots in one cut). By AI agents, Wed Nov 11 2026. No macro, syntax, notation, axiom, sorry.
-/
import Derived.Test.YtlgcdcjhflihiaaDoorChecked
import GoSem.Claim
import GoSem.ClaimJoined
import GoSem.ClaimMapViews
import Derived.JoinedTies
import Derived.KernelRfl
namespace Go.Proofs.YtlgcdcjhflihiaaDoor
/- THE CELL 'sum', in the pinned program and in every row, IS THE sha256 OF THE DUMP (.gsa) THAT YtlgcdcjhflihiaaDoorProg.lean LOADS. Nothing in Lean hashes anything: it is a label: what it is worth is what the hold of that sum in a sandbox is worth. -/
noncomputable def Tryd.pinned : Pinned := { name := "ytlgcdcjhflihiaadoor", sum := "fca3502c9f7cb1db3af2aafbc287f72f47ef2c313099f5b6be423723f9ad98fc", checked := Tryd.checked }
namespace Rows
def none {H : Type} : Left H := { results := [], args := [] }

/- WHAT THE LISTED PACKAGE-LEVEL VARIABLES READ AS WHEN THE CALL BEGINS. Each datum BY PROGRAM (the guide's laid-datum.mjs) off the statement by which the dump's own 'gosem.cut.vars' lays the variable. In a bare row this is a premise. The card (YtlgcdcjhflihiaaDoorCards.lean) ties it to the program's text. -/
def laid_tideline_mix_lanes {H : Type} : DataW H := .agg [.agg [.lit (.int .u64 2611923443488327891), .lit (.int .u64 11400714819323198485), .lit (.int .u64 29)], .agg [.lit (.int .u64 1376283091369227076), .lit (.int .u64 14029467366897019727), .lit (.int .u64 32)]]

/-- 'tidelinelaw08.StoreNew': WHATEVER THE INPUT: true; the input reads as it did. -/
def storeNewSpec : ChangeSpec := { name := "storeNew", fn := fun _ => fun
  | [d] => { results := [.lit (.bool true)], args := [d] }
  | _ => none }
def storeNewRow : OpenClaim := { program := "ytlgcdcjhflihiaadoor", sum := "fca3502c9f7cb1db3af2aafbc287f72f47ef2c313099f5b6be423723f9ad98fc", func := "tideline/tidelinelaw08.StoreNew", spec := "storeNew", unfollowed := true, recurses := true, named := ["tideline/mix.lanes"], apart := false, laid := [("tideline/mix.lanes", laid_tideline_mix_lanes)] }
def StoreNewSaid : Prop := storeNewRow.holds Tryd.pinned (OpenSpec.ofChange storeNewSpec)

/-- ITS FALSE NEIGHBOUR: 'it returns false'. Refute it at one input. -/
def storeNewWrong : ChangeSpec := { name := "storeNew", fn := fun _ => fun
  | [d] => { results := [.lit (.bool false)], args := [d] }
  | _ => none }
def StoreNewWrongFalsely : Prop := storeNewRow.holds Tryd.pinned (OpenSpec.ofChange storeNewWrong)

/-- 'tidelinelaw08.StoreUp': WHATEVER THE INPUT: true; the input reads as it did. -/
def storeUpSpec : ChangeSpec := { name := "storeUp", fn := fun _ => fun
  | [d1, d2] => { results := [.lit (.bool true)], args := [d1, d2] }
  | _ => none }
def storeUpRow : OpenClaim := { program := "ytlgcdcjhflihiaadoor", sum := "fca3502c9f7cb1db3af2aafbc287f72f47ef2c313099f5b6be423723f9ad98fc", func := "tideline/tidelinelaw08.StoreUp", spec := "storeUp", unfollowed := true, recurses := true, named := ["tideline/mix.lanes"], apart := false, laid := [("tideline/mix.lanes", laid_tideline_mix_lanes)] }
def StoreUpSaid : Prop := storeUpRow.holds Tryd.pinned (OpenSpec.ofChange storeUpSpec)

/-- ITS FALSE NEIGHBOUR: 'it returns false'. Refute it at one input. -/
def storeUpWrong : ChangeSpec := { name := "storeUp", fn := fun _ => fun
  | [d1, d2] => { results := [.lit (.bool false)], args := [d1, d2] }
  | _ => none }
def StoreUpWrongFalsely : Prop := storeUpRow.holds Tryd.pinned (OpenSpec.ofChange storeUpWrong)

/-- 'tidelinelaw08.StoreFills': WHATEVER THE INPUT: true; the input reads as it did. -/
def storeFillsSpec : ChangeSpec := { name := "storeFills", fn := fun _ => fun
  | [d1, d2, d3, d4, d5] => { results := [.lit (.bool true)], args := [d1, d2, d3, d4, d5] }
  | _ => none }
def storeFillsRow : OpenClaim := { program := "ytlgcdcjhflihiaadoor", sum := "fca3502c9f7cb1db3af2aafbc287f72f47ef2c313099f5b6be423723f9ad98fc", func := "tideline/tidelinelaw08.StoreFills", spec := "storeFills", unfollowed := true, recurses := true, named := ["tideline/mix.lanes"], apart := false, laid := [("tideline/mix.lanes", laid_tideline_mix_lanes)] }
def StoreFillsSaid : Prop := storeFillsRow.holds Tryd.pinned (OpenSpec.ofChange storeFillsSpec)

/-- ITS FALSE NEIGHBOUR: 'it returns false'. Refute it at one input. -/
def storeFillsWrong : ChangeSpec := { name := "storeFills", fn := fun _ => fun
  | [d1, d2, d3, d4, d5] => { results := [.lit (.bool false)], args := [d1, d2, d3, d4, d5] }
  | _ => none }
def StoreFillsWrongFalsely : Prop := storeFillsRow.holds Tryd.pinned (OpenSpec.ofChange storeFillsWrong)

/-- 'tidelinelaw08.StoreTurned': WHATEVER THE INPUT: true; the input reads as it did. -/
def storeTurnedSpec : ChangeSpec := { name := "storeTurned", fn := fun _ => fun
  | [d1, d2] => { results := [.lit (.bool true)], args := [d1, d2] }
  | _ => none }
def storeTurnedRow : OpenClaim := { program := "ytlgcdcjhflihiaadoor", sum := "fca3502c9f7cb1db3af2aafbc287f72f47ef2c313099f5b6be423723f9ad98fc", func := "tideline/tidelinelaw08.StoreTurned", spec := "storeTurned", unfollowed := true, recurses := true, named := ["tideline/mix.lanes"], apart := false, laid := [("tideline/mix.lanes", laid_tideline_mix_lanes)] }
def StoreTurnedSaid : Prop := storeTurnedRow.holds Tryd.pinned (OpenSpec.ofChange storeTurnedSpec)

/-- ITS FALSE NEIGHBOUR: 'it returns false'. Refute it at one input. -/
def storeTurnedWrong : ChangeSpec := { name := "storeTurned", fn := fun _ => fun
  | [d1, d2] => { results := [.lit (.bool false)], args := [d1, d2] }
  | _ => none }
def StoreTurnedWrongFalsely : Prop := storeTurnedRow.holds Tryd.pinned (OpenSpec.ofChange storeTurnedWrong)

/-- 'tidelinelaw08.StoreFolds': WHATEVER THE INPUT: true; the input reads as it did. -/
def storeFoldsSpec : ChangeSpec := { name := "storeFolds", fn := fun _ => fun
  | [d1, d2, d3] => { results := [.lit (.bool true)], args := [d1, d2, d3] }
  | _ => none }
def storeFoldsRow : OpenClaim := { program := "ytlgcdcjhflihiaadoor", sum := "fca3502c9f7cb1db3af2aafbc287f72f47ef2c313099f5b6be423723f9ad98fc", func := "tideline/tidelinelaw08.StoreFolds", spec := "storeFolds", unfollowed := true, recurses := true, named := ["tideline/mix.lanes"], apart := false, laid := [("tideline/mix.lanes", laid_tideline_mix_lanes)] }
def StoreFoldsSaid : Prop := storeFoldsRow.holds Tryd.pinned (OpenSpec.ofChange storeFoldsSpec)

/-- ITS FALSE NEIGHBOUR: 'it returns false'. Refute it at one input. -/
def storeFoldsWrong : ChangeSpec := { name := "storeFolds", fn := fun _ => fun
  | [d1, d2, d3] => { results := [.lit (.bool false)], args := [d1, d2, d3] }
  | _ => none }
def StoreFoldsWrongFalsely : Prop := storeFoldsRow.holds Tryd.pinned (OpenSpec.ofChange storeFoldsWrong)

/- THE SECOND FORM. 'bulk': how many values and letters a reading holds, each counted each time it is reached (what is shared counts as often as it is met; a slice's spare places count too). A statement '..UptoSaid' is the law's where the arguments, and the package variables that the reading takes, are together of bulk at most 1048576: NARROWER than '..Said'. Prove '..Said' where nothing that the law and all that it calls make is longer than what came in: it says more and counts as full. Else prove '..UptoSaid'. A law counts once. -/
mutual
def uptoBulk {H : Type} : DataW H → Nat
  | .lit (.string bytes) => bytes.length + 1
  | .lit _ => 1
  | .nil => 1
  | .ptr d => uptoBulk d + 1
  | .slice elems spare => uptoBulkAll elems + uptoBulkAll spare + 1
  | .agg parts => uptoBulkAll parts + 1
  | .iface _ d => uptoBulk d + 1
  | .map entries => uptoBulkEntries entries + 1
  | .held _ => 1
def uptoBulkAll {H : Type} : List (DataW H) → Nat
  | [] => 0
  | d :: r => uptoBulk d + uptoBulkAll r
def uptoBulkEntries {H : Type} : List (Lit × DataW H) → Nat
  | [] => 0
  | x :: r => uptoBulkEntry x + uptoBulkEntries r
def uptoBulkEntry {H : Type} : Lit × DataW H → Nat
  | (.string bytes, d) => bytes.length + uptoBulk d + 1
  | (_, d) => uptoBulk d + 1
 end
def uptoSmall : (H : Type) → List (DataW H) → Bool := fun _ ds => decide (uptoBulkAll ds ≤ 1048576)
def OpenSpec.upto (s : _root_.Go.ChangeSpec) : _root_.Go.OpenSpec := { _root_.Go.OpenSpec.ofChange s with cond := some uptoSmall }

/-- 'tidelinelaw08.StoreNew', WHERE WHAT IT READS IS OF BULK AT MOST 1048576: true; the input reads as it did. -/
def storeNewUptoRow : OpenClaim := { program := "ytlgcdcjhflihiaadoor", sum := "fca3502c9f7cb1db3af2aafbc287f72f47ef2c313099f5b6be423723f9ad98fc", func := "tideline/tidelinelaw08.StoreNew", spec := "storeNew", unfollowed := true, recurses := true, named := ["tideline/mix.lanes"], apart := false, laid := [("tideline/mix.lanes", laid_tideline_mix_lanes)], narrowed := true }
def StoreNewUptoSaid : Prop := storeNewUptoRow.holds Tryd.pinned (OpenSpec.upto storeNewSpec)

/-- 'tidelinelaw08.StoreUp', WHERE WHAT IT READS IS OF BULK AT MOST 1048576: true; the input reads as it did. -/
def storeUpUptoRow : OpenClaim := { program := "ytlgcdcjhflihiaadoor", sum := "fca3502c9f7cb1db3af2aafbc287f72f47ef2c313099f5b6be423723f9ad98fc", func := "tideline/tidelinelaw08.StoreUp", spec := "storeUp", unfollowed := true, recurses := true, named := ["tideline/mix.lanes"], apart := false, laid := [("tideline/mix.lanes", laid_tideline_mix_lanes)], narrowed := true }
def StoreUpUptoSaid : Prop := storeUpUptoRow.holds Tryd.pinned (OpenSpec.upto storeUpSpec)

/-- 'tidelinelaw08.StoreFills', WHERE WHAT IT READS IS OF BULK AT MOST 1048576: true; the input reads as it did. -/
def storeFillsUptoRow : OpenClaim := { program := "ytlgcdcjhflihiaadoor", sum := "fca3502c9f7cb1db3af2aafbc287f72f47ef2c313099f5b6be423723f9ad98fc", func := "tideline/tidelinelaw08.StoreFills", spec := "storeFills", unfollowed := true, recurses := true, named := ["tideline/mix.lanes"], apart := false, laid := [("tideline/mix.lanes", laid_tideline_mix_lanes)], narrowed := true }
def StoreFillsUptoSaid : Prop := storeFillsUptoRow.holds Tryd.pinned (OpenSpec.upto storeFillsSpec)

/-- 'tidelinelaw08.StoreTurned', WHERE WHAT IT READS IS OF BULK AT MOST 1048576: true; the input reads as it did. -/
def storeTurnedUptoRow : OpenClaim := { program := "ytlgcdcjhflihiaadoor", sum := "fca3502c9f7cb1db3af2aafbc287f72f47ef2c313099f5b6be423723f9ad98fc", func := "tideline/tidelinelaw08.StoreTurned", spec := "storeTurned", unfollowed := true, recurses := true, named := ["tideline/mix.lanes"], apart := false, laid := [("tideline/mix.lanes", laid_tideline_mix_lanes)], narrowed := true }
def StoreTurnedUptoSaid : Prop := storeTurnedUptoRow.holds Tryd.pinned (OpenSpec.upto storeTurnedSpec)

/-- 'tidelinelaw08.StoreFolds', WHERE WHAT IT READS IS OF BULK AT MOST 1048576: true; the input reads as it did. -/
def storeFoldsUptoRow : OpenClaim := { program := "ytlgcdcjhflihiaadoor", sum := "fca3502c9f7cb1db3af2aafbc287f72f47ef2c313099f5b6be423723f9ad98fc", func := "tideline/tidelinelaw08.StoreFolds", spec := "storeFolds", unfollowed := true, recurses := true, named := ["tideline/mix.lanes"], apart := false, laid := [("tideline/mix.lanes", laid_tideline_mix_lanes)], narrowed := true }
def StoreFoldsUptoSaid : Prop := storeFoldsUptoRow.holds Tryd.pinned (OpenSpec.upto storeFoldsSpec)

end Rows
end Go.Proofs.YtlgcdcjhflihiaaDoor
