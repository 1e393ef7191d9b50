/-
  NARROWER THAN 'FOR EVERY INPUT', by the rows' own cells (each row's printed sentence says how): MatchParts: laid · MatchOnce: laid · MatchAnswers: laid · MatchOne: laid · MatchTiles: laid.
  DERIVED. THE GIVEN ROWS OF THIS SEAT. 5 by the template 'for every input the law returns true; each argument reads behind the call as it read before'; 0 by the template 'total and deterministic' (their statements: YtpbkjffiohfkcaaGreatDoorTotals.lean).
  GIVEN WITH THE SEED: the statements are not yours to turn. If you find one false, say at which input.
  Laid BY PROGRAM, IN A SANDBOX (cutbox-rows.mjs): the forced cells as the released guide's own fill.sh prints them over the translation abfeff89fc79d3f0… (all of the seat's roots in one cut). By AI agents, Wed Nov 11 2026. No macro, syntax, notation, axiom, sorry.
-/
import Derived.Test.YtpbkjffiohfkcaaGreatDoorChecked
import GoSem.Claim
import GoSem.ClaimJoined
import GoSem.ClaimMapViews
import Derived.JoinedTies
import Derived.KernelRfl
namespace Go.Proofs.YtpbkjffiohfkcaaGreatDoor
/- THE CELL 'sum', in the pinned program and in every row, IS THE sha256 OF THE DUMP (.gsa) THAT YtpbkjffiohfkcaaGreatDoorProg.lean LOADS. Nothing in Lean hashes anything: it is a label: what it is worth is what the hold of that sum in a sandbox is worth. -/
noncomputable def Tryz.pinned : Pinned := { name := "ytpbkjffiohfkcaagreatdoor", sum := "abfeff89fc79d3f07345ca4e9f4b1591c86966b3a22c55d05223d5dc88ca4473", checked := Tryz.checked }
namespace Rows
def none {H : Type} : Left H := { results := [], args := [] }

/- WHAT THE LISTED PACKAGE-LEVEL VARIABLES READ AS WHEN THE CALL BEGINS. Each datum BY PROGRAM (the guide's laid-datum.mjs) off the statement by which the dump's own 'gosem.cut.vars' lays the variable. In a bare row this is a premise. The card (YtpbkjffiohfkcaaGreatDoorCards.lean) ties it to the program's text. -/
def laid_tideline_mix_lanes {H : Type} : DataW H := .agg [.agg [.lit (.int .u64 2611923443488327891), .lit (.int .u64 11400714819323198485), .lit (.int .u64 29)], .agg [.lit (.int .u64 1376283091369227076), .lit (.int .u64 14029467366897019727), .lit (.int .u64 32)]]

/-- 'tidelinelaw13.MatchParts': WHATEVER THE INPUT: true; the input reads as it did. -/
def matchPartsSpec : ChangeSpec := { name := "matchParts", fn := fun _ => fun
  | [d1, d2, d3, d4] => { results := [.lit (.bool true)], args := [d1, d2, d3, d4] }
  | _ => none }
def matchPartsRow : OpenClaim := { program := "ytpbkjffiohfkcaagreatdoor", sum := "abfeff89fc79d3f07345ca4e9f4b1591c86966b3a22c55d05223d5dc88ca4473", func := "tideline/tidelinelaw13.MatchParts", spec := "matchParts", unfollowed := true, recurses := true, named := ["tideline/mix.lanes"], apart := false, laid := [("tideline/mix.lanes", laid_tideline_mix_lanes)] }
def MatchPartsSaid : Prop := matchPartsRow.holds Tryz.pinned (OpenSpec.ofChange matchPartsSpec)

/-- ITS FALSE NEIGHBOUR: 'it returns false'. Refute it at one input. -/
def matchPartsWrong : ChangeSpec := { name := "matchParts", fn := fun _ => fun
  | [d1, d2, d3, d4] => { results := [.lit (.bool false)], args := [d1, d2, d3, d4] }
  | _ => none }
def MatchPartsWrongFalsely : Prop := matchPartsRow.holds Tryz.pinned (OpenSpec.ofChange matchPartsWrong)

/-- 'tidelinelaw13.MatchOnce': WHATEVER THE INPUT: true; the input reads as it did. -/
def matchOnceSpec : ChangeSpec := { name := "matchOnce", fn := fun _ => fun
  | [d1, d2] => { results := [.lit (.bool true)], args := [d1, d2] }
  | _ => none }
def matchOnceRow : OpenClaim := { program := "ytpbkjffiohfkcaagreatdoor", sum := "abfeff89fc79d3f07345ca4e9f4b1591c86966b3a22c55d05223d5dc88ca4473", func := "tideline/tidelinelaw13.MatchOnce", spec := "matchOnce", unfollowed := true, recurses := true, named := ["tideline/mix.lanes"], apart := false, laid := [("tideline/mix.lanes", laid_tideline_mix_lanes)] }
def MatchOnceSaid : Prop := matchOnceRow.holds Tryz.pinned (OpenSpec.ofChange matchOnceSpec)

/-- ITS FALSE NEIGHBOUR: 'it returns false'. Refute it at one input. -/
def matchOnceWrong : ChangeSpec := { name := "matchOnce", fn := fun _ => fun
  | [d1, d2] => { results := [.lit (.bool false)], args := [d1, d2] }
  | _ => none }
def MatchOnceWrongFalsely : Prop := matchOnceRow.holds Tryz.pinned (OpenSpec.ofChange matchOnceWrong)

/-- 'tidelinelaw13.MatchAnswers': WHATEVER THE INPUT: true; the input reads as it did. -/
def matchAnswersSpec : ChangeSpec := { name := "matchAnswers", fn := fun _ => fun
  | [d1, d2, d3, d4] => { results := [.lit (.bool true)], args := [d1, d2, d3, d4] }
  | _ => none }
def matchAnswersRow : OpenClaim := { program := "ytpbkjffiohfkcaagreatdoor", sum := "abfeff89fc79d3f07345ca4e9f4b1591c86966b3a22c55d05223d5dc88ca4473", func := "tideline/tidelinelaw13.MatchAnswers", spec := "matchAnswers", unfollowed := true, recurses := true, named := ["tideline/mix.lanes"], apart := false, laid := [("tideline/mix.lanes", laid_tideline_mix_lanes)] }
def MatchAnswersSaid : Prop := matchAnswersRow.holds Tryz.pinned (OpenSpec.ofChange matchAnswersSpec)

/-- ITS FALSE NEIGHBOUR: 'it returns false'. Refute it at one input. -/
def matchAnswersWrong : ChangeSpec := { name := "matchAnswers", fn := fun _ => fun
  | [d1, d2, d3, d4] => { results := [.lit (.bool false)], args := [d1, d2, d3, d4] }
  | _ => none }
def MatchAnswersWrongFalsely : Prop := matchAnswersRow.holds Tryz.pinned (OpenSpec.ofChange matchAnswersWrong)

/-- 'tidelinelaw13.MatchOne': WHATEVER THE INPUT: true; the input reads as it did. -/
def matchOneSpec : ChangeSpec := { name := "matchOne", fn := fun _ => fun
  | [d1, d2, d3, d4] => { results := [.lit (.bool true)], args := [d1, d2, d3, d4] }
  | _ => none }
def matchOneRow : OpenClaim := { program := "ytpbkjffiohfkcaagreatdoor", sum := "abfeff89fc79d3f07345ca4e9f4b1591c86966b3a22c55d05223d5dc88ca4473", func := "tideline/tidelinelaw13.MatchOne", spec := "matchOne", unfollowed := true, recurses := true, named := ["tideline/mix.lanes"], apart := false, laid := [("tideline/mix.lanes", laid_tideline_mix_lanes)] }
def MatchOneSaid : Prop := matchOneRow.holds Tryz.pinned (OpenSpec.ofChange matchOneSpec)

/-- ITS FALSE NEIGHBOUR: 'it returns false'. Refute it at one input. -/
def matchOneWrong : ChangeSpec := { name := "matchOne", fn := fun _ => fun
  | [d1, d2, d3, d4] => { results := [.lit (.bool false)], args := [d1, d2, d3, d4] }
  | _ => none }
def MatchOneWrongFalsely : Prop := matchOneRow.holds Tryz.pinned (OpenSpec.ofChange matchOneWrong)

/-- 'tidelinelaw13.MatchTiles': WHATEVER THE INPUT: true; the input reads as it did. -/
def matchTilesSpec : ChangeSpec := { name := "matchTiles", fn := fun _ => fun
  | [d1, d2, d3, d4] => { results := [.lit (.bool true)], args := [d1, d2, d3, d4] }
  | _ => none }
def matchTilesRow : OpenClaim := { program := "ytpbkjffiohfkcaagreatdoor", sum := "abfeff89fc79d3f07345ca4e9f4b1591c86966b3a22c55d05223d5dc88ca4473", func := "tideline/tidelinelaw13.MatchTiles", spec := "matchTiles", unfollowed := true, recurses := true, named := ["tideline/mix.lanes"], apart := false, laid := [("tideline/mix.lanes", laid_tideline_mix_lanes)] }
def MatchTilesSaid : Prop := matchTilesRow.holds Tryz.pinned (OpenSpec.ofChange matchTilesSpec)

/-- ITS FALSE NEIGHBOUR: 'it returns false'. Refute it at one input. -/
def matchTilesWrong : ChangeSpec := { name := "matchTiles", fn := fun _ => fun
  | [d1, d2, d3, d4] => { results := [.lit (.bool false)], args := [d1, d2, d3, d4] }
  | _ => none }
def MatchTilesWrongFalsely : Prop := matchTilesRow.holds Tryz.pinned (OpenSpec.ofChange matchTilesWrong)

/- THE SECOND FORM. 'bulk': how many values and letters a reading holds, each counted each time it is reached (what is shared counts as often as it is met; a slice's spare places count too). A statement '..UptoSaid' is the law's where the arguments, and the package variables that the reading takes, are together of bulk at most 1048576: NARROWER than '..Said'. Prove '..Said' where nothing that the law and all that it calls make is longer than what came in: it says more and counts as full. Else prove '..UptoSaid'. A law counts once. -/
mutual
def uptoBulk {H : Type} : DataW H → Nat
  | .lit (.string bytes) => bytes.length + 1
  | .lit _ => 1
  | .nil => 1
  | .ptr d => uptoBulk d + 1
  | .slice elems spare => uptoBulkAll elems + uptoBulkAll spare + 1
  | .agg parts => uptoBulkAll parts + 1
  | .iface _ d => uptoBulk d + 1
  | .map entries => uptoBulkEntries entries + 1
  | .held _ => 1
def uptoBulkAll {H : Type} : List (DataW H) → Nat
  | [] => 0
  | d :: r => uptoBulk d + uptoBulkAll r
def uptoBulkEntries {H : Type} : List (Lit × DataW H) → Nat
  | [] => 0
  | x :: r => uptoBulkEntry x + uptoBulkEntries r
def uptoBulkEntry {H : Type} : Lit × DataW H → Nat
  | (.string bytes, d) => bytes.length + uptoBulk d + 1
  | (_, d) => uptoBulk d + 1
 end
def uptoSmall : (H : Type) → List (DataW H) → Bool := fun _ ds => decide (uptoBulkAll ds ≤ 1048576)
def OpenSpec.upto (s : _root_.Go.ChangeSpec) : _root_.Go.OpenSpec := { _root_.Go.OpenSpec.ofChange s with cond := some uptoSmall }

/-- 'tidelinelaw13.MatchParts', WHERE WHAT IT READS IS OF BULK AT MOST 1048576: true; the input reads as it did. -/
def matchPartsUptoRow : OpenClaim := { program := "ytpbkjffiohfkcaagreatdoor", sum := "abfeff89fc79d3f07345ca4e9f4b1591c86966b3a22c55d05223d5dc88ca4473", func := "tideline/tidelinelaw13.MatchParts", spec := "matchParts", unfollowed := true, recurses := true, named := ["tideline/mix.lanes"], apart := false, laid := [("tideline/mix.lanes", laid_tideline_mix_lanes)], narrowed := true }
def MatchPartsUptoSaid : Prop := matchPartsUptoRow.holds Tryz.pinned (OpenSpec.upto matchPartsSpec)

/-- 'tidelinelaw13.MatchOnce', WHERE WHAT IT READS IS OF BULK AT MOST 1048576: true; the input reads as it did. -/
def matchOnceUptoRow : OpenClaim := { program := "ytpbkjffiohfkcaagreatdoor", sum := "abfeff89fc79d3f07345ca4e9f4b1591c86966b3a22c55d05223d5dc88ca4473", func := "tideline/tidelinelaw13.MatchOnce", spec := "matchOnce", unfollowed := true, recurses := true, named := ["tideline/mix.lanes"], apart := false, laid := [("tideline/mix.lanes", laid_tideline_mix_lanes)], narrowed := true }
def MatchOnceUptoSaid : Prop := matchOnceUptoRow.holds Tryz.pinned (OpenSpec.upto matchOnceSpec)

/-- 'tidelinelaw13.MatchAnswers', WHERE WHAT IT READS IS OF BULK AT MOST 1048576: true; the input reads as it did. -/
def matchAnswersUptoRow : OpenClaim := { program := "ytpbkjffiohfkcaagreatdoor", sum := "abfeff89fc79d3f07345ca4e9f4b1591c86966b3a22c55d05223d5dc88ca4473", func := "tideline/tidelinelaw13.MatchAnswers", spec := "matchAnswers", unfollowed := true, recurses := true, named := ["tideline/mix.lanes"], apart := false, laid := [("tideline/mix.lanes", laid_tideline_mix_lanes)], narrowed := true }
def MatchAnswersUptoSaid : Prop := matchAnswersUptoRow.holds Tryz.pinned (OpenSpec.upto matchAnswersSpec)

/-- 'tidelinelaw13.MatchOne', WHERE WHAT IT READS IS OF BULK AT MOST 1048576: true; the input reads as it did. -/
def matchOneUptoRow : OpenClaim := { program := "ytpbkjffiohfkcaagreatdoor", sum := "abfeff89fc79d3f07345ca4e9f4b1591c86966b3a22c55d05223d5dc88ca4473", func := "tideline/tidelinelaw13.MatchOne", spec := "matchOne", unfollowed := true, recurses := true, named := ["tideline/mix.lanes"], apart := false, laid := [("tideline/mix.lanes", laid_tideline_mix_lanes)], narrowed := true }
def MatchOneUptoSaid : Prop := matchOneUptoRow.holds Tryz.pinned (OpenSpec.upto matchOneSpec)

/-- 'tidelinelaw13.MatchTiles', WHERE WHAT IT READS IS OF BULK AT MOST 1048576: true; the input reads as it did. -/
def matchTilesUptoRow : OpenClaim := { program := "ytpbkjffiohfkcaagreatdoor", sum := "abfeff89fc79d3f07345ca4e9f4b1591c86966b3a22c55d05223d5dc88ca4473", func := "tideline/tidelinelaw13.MatchTiles", spec := "matchTiles", unfollowed := true, recurses := true, named := ["tideline/mix.lanes"], apart := false, laid := [("tideline/mix.lanes", laid_tideline_mix_lanes)], narrowed := true }
def MatchTilesUptoSaid : Prop := matchTilesUptoRow.holds Tryz.pinned (OpenSpec.upto matchTilesSpec)

end Rows
end Go.Proofs.YtpbkjffiohfkcaaGreatDoor
