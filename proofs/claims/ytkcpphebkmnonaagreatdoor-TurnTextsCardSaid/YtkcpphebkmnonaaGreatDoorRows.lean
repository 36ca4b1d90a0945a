/-
  NARROWER THAN 'FOR EVERY INPUT', by the rows' own cells (each row's printed sentence says how): TurnParts: laid · TurnMakes: laid · TurnPairs: laid · TurnArcs: laid · TurnGroup: laid · TurnApplies: laid · TurnOrder: laid · TurnTexts: laid.
  DERIVED. THE GIVEN ROWS OF THIS SEAT. 8 by the template 'for every input the law returns true; each argument reads behind the call as it read before'; 0 by the template 'total and deterministic' (their statements: YtkcpphebkmnonaaGreatDoorTotals.lean).
  GIVEN WITH THE SEED: the statements are not yours to turn. If you find one false, say at which input.
  Laid BY PROGRAM, IN A SANDBOX (cutbox-rows.mjs): the forced cells as the released guide's own fill.sh prints them over the translation 1c4dc24ffcbdec86… (all of the seat's roots in one cut). By AI agents, Wed Nov 11 2026. No macro, syntax, notation, axiom, sorry.
-/
import Derived.Test.YtkcpphebkmnonaaGreatDoorChecked
import GoSem.Claim
import GoSem.ClaimJoined
import GoSem.ClaimMapViews
import Derived.JoinedTies
import Derived.KernelRfl
namespace Go.Proofs.YtkcpphebkmnonaaGreatDoor
/- THE CELL 'sum', in the pinned program and in every row, IS THE sha256 OF THE DUMP (.gsa) THAT YtkcpphebkmnonaaGreatDoorProg.lean LOADS. Nothing in Lean hashes anything: it is a label: what it is worth is what the hold of that sum in a sandbox is worth. -/
noncomputable def Tryz.pinned : Pinned := { name := "ytkcpphebkmnonaagreatdoor", sum := "1c4dc24ffcbdec86d1797d279dc86e72b381177972cac1bcdc0914bb316611e7", checked := Tryz.checked }
namespace Rows
def none {H : Type} : Left H := { results := [], args := [] }

/- WHAT THE LISTED PACKAGE-LEVEL VARIABLES READ AS WHEN THE CALL BEGINS. Each datum BY PROGRAM (the guide's laid-datum.mjs) off the statement by which the dump's own 'gosem.cut.vars' lays the variable. In a bare row this is a premise. The card (YtkcpphebkmnonaaGreatDoorCards.lean) ties it to the program's text. -/
def laid_math_bits_deBruijn32tab {H : Type} : DataW H := .agg [.lit (.int .u8 0), .lit (.int .u8 1), .lit (.int .u8 28), .lit (.int .u8 2), .lit (.int .u8 29), .lit (.int .u8 14), .lit (.int .u8 24), .lit (.int .u8 3), .lit (.int .u8 30), .lit (.int .u8 22), .lit (.int .u8 20), .lit (.int .u8 15), .lit (.int .u8 25), .lit (.int .u8 17), .lit (.int .u8 4), .lit (.int .u8 8), .lit (.int .u8 31), .lit (.int .u8 27), .lit (.int .u8 13), .lit (.int .u8 23), .lit (.int .u8 21), .lit (.int .u8 19), .lit (.int .u8 16), .lit (.int .u8 7), .lit (.int .u8 26), .lit (.int .u8 12), .lit (.int .u8 18), .lit (.int .u8 6), .lit (.int .u8 11), .lit (.int .u8 5), .lit (.int .u8 10), .lit (.int .u8 9)]
def laid_math_bits_deBruijn64tab {H : Type} : DataW H := .agg [.lit (.int .u8 0), .lit (.int .u8 1), .lit (.int .u8 56), .lit (.int .u8 2), .lit (.int .u8 57), .lit (.int .u8 49), .lit (.int .u8 28), .lit (.int .u8 3), .lit (.int .u8 61), .lit (.int .u8 58), .lit (.int .u8 42), .lit (.int .u8 50), .lit (.int .u8 38), .lit (.int .u8 29), .lit (.int .u8 17), .lit (.int .u8 4), .lit (.int .u8 62), .lit (.int .u8 47), .lit (.int .u8 59), .lit (.int .u8 36), .lit (.int .u8 45), .lit (.int .u8 43), .lit (.int .u8 51), .lit (.int .u8 22), .lit (.int .u8 53), .lit (.int .u8 39), .lit (.int .u8 33), .lit (.int .u8 30), .lit (.int .u8 24), .lit (.int .u8 18), .lit (.int .u8 12), .lit (.int .u8 5), .lit (.int .u8 63), .lit (.int .u8 55), .lit (.int .u8 48), .lit (.int .u8 27), .lit (.int .u8 60), .lit (.int .u8 41), .lit (.int .u8 37), .lit (.int .u8 16), .lit (.int .u8 46), .lit (.int .u8 35), .lit (.int .u8 44), .lit (.int .u8 21), .lit (.int .u8 52), .lit (.int .u8 32), .lit (.int .u8 23), .lit (.int .u8 11), .lit (.int .u8 54), .lit (.int .u8 26), .lit (.int .u8 40), .lit (.int .u8 15), .lit (.int .u8 34), .lit (.int .u8 20), .lit (.int .u8 31), .lit (.int .u8 10), .lit (.int .u8 25), .lit (.int .u8 14), .lit (.int .u8 19), .lit (.int .u8 9), .lit (.int .u8 13), .lit (.int .u8 8), .lit (.int .u8 7), .lit (.int .u8 6)]
def laid_internal_strconv_uint64pow10 {H : Type} : DataW H := .agg [.lit (.int .u64 1), .lit (.int .u64 10), .lit (.int .u64 100), .lit (.int .u64 1000), .lit (.int .u64 10000), .lit (.int .u64 100000), .lit (.int .u64 1000000), .lit (.int .u64 10000000), .lit (.int .u64 100000000), .lit (.int .u64 1000000000), .lit (.int .u64 10000000000), .lit (.int .u64 100000000000), .lit (.int .u64 1000000000000), .lit (.int .u64 10000000000000), .lit (.int .u64 100000000000000), .lit (.int .u64 1000000000000000), .lit (.int .u64 10000000000000000), .lit (.int .u64 100000000000000000), .lit (.int .u64 1000000000000000000), .lit (.int .u64 10000000000000000000)]

/-- 'linkworklaw12.TurnParts': WHATEVER THE INPUT: true; the input reads as it did. -/
def turnPartsSpec : ChangeSpec := { name := "turnParts", fn := fun _ => fun
  | [d] => { results := [.lit (.bool true)], args := [d] }
  | _ => none }
def turnPartsRow : OpenClaim := { program := "ytkcpphebkmnonaagreatdoor", sum := "1c4dc24ffcbdec86d1797d279dc86e72b381177972cac1bcdc0914bb316611e7", func := "linkwork/linkworklaw12.TurnParts", spec := "turnParts", named := ["math/bits.deBruijn64tab", "internal/strconv.uint64pow10", "math/bits.deBruijn32tab"], apart := false, laid := [("math/bits.deBruijn32tab", laid_math_bits_deBruijn32tab), ("math/bits.deBruijn64tab", laid_math_bits_deBruijn64tab), ("internal/strconv.uint64pow10", laid_internal_strconv_uint64pow10)] }
def TurnPartsSaid : Prop := turnPartsRow.holds Tryz.pinned (OpenSpec.ofChange turnPartsSpec)

/-- ITS FALSE NEIGHBOUR: 'it returns false'. Refute it at one input. -/
def turnPartsWrong : ChangeSpec := { name := "turnParts", fn := fun _ => fun
  | [d] => { results := [.lit (.bool false)], args := [d] }
  | _ => none }
def TurnPartsWrongFalsely : Prop := turnPartsRow.holds Tryz.pinned (OpenSpec.ofChange turnPartsWrong)

/-- 'linkworklaw12.TurnMakes': WHATEVER THE INPUT: true; the input reads as it did. -/
def turnMakesSpec : ChangeSpec := { name := "turnMakes", fn := fun _ => fun
  | [d1, d2, d3] => { results := [.lit (.bool true)], args := [d1, d2, d3] }
  | _ => none }
def turnMakesRow : OpenClaim := { program := "ytkcpphebkmnonaagreatdoor", sum := "1c4dc24ffcbdec86d1797d279dc86e72b381177972cac1bcdc0914bb316611e7", func := "linkwork/linkworklaw12.TurnMakes", spec := "turnMakes", inPlace := ["internal/bytealg.IndexByteString", "internal/bytealg.IndexString"], named := ["math/bits.deBruijn64tab", "internal/bytealg.MaxLen"], apart := false, laid := [("math/bits.deBruijn64tab", laid_math_bits_deBruijn64tab)] }
def TurnMakesSaid : Prop := turnMakesRow.holds Tryz.pinned (OpenSpec.ofChange turnMakesSpec)

/-- ITS FALSE NEIGHBOUR: 'it returns false'. Refute it at one input. -/
def turnMakesWrong : ChangeSpec := { name := "turnMakes", fn := fun _ => fun
  | [d1, d2, d3] => { results := [.lit (.bool false)], args := [d1, d2, d3] }
  | _ => none }
def TurnMakesWrongFalsely : Prop := turnMakesRow.holds Tryz.pinned (OpenSpec.ofChange turnMakesWrong)

/-- 'linkworklaw12.TurnPairs': WHATEVER THE INPUT: true; the input reads as it did. -/
def turnPairsSpec : ChangeSpec := { name := "turnPairs", fn := fun _ => fun
  | [d1, d2, d3] => { results := [.lit (.bool true)], args := [d1, d2, d3] }
  | _ => none }
def turnPairsRow : OpenClaim := { program := "ytkcpphebkmnonaagreatdoor", sum := "1c4dc24ffcbdec86d1797d279dc86e72b381177972cac1bcdc0914bb316611e7", func := "linkwork/linkworklaw12.TurnPairs", spec := "turnPairs", recurses := true, named := ["math/bits.deBruijn64tab"], apart := false, laid := [("math/bits.deBruijn64tab", laid_math_bits_deBruijn64tab)] }
def TurnPairsSaid : Prop := turnPairsRow.holds Tryz.pinned (OpenSpec.ofChange turnPairsSpec)

/-- ITS FALSE NEIGHBOUR: 'it returns false'. Refute it at one input. -/
def turnPairsWrong : ChangeSpec := { name := "turnPairs", fn := fun _ => fun
  | [d1, d2, d3] => { results := [.lit (.bool false)], args := [d1, d2, d3] }
  | _ => none }
def TurnPairsWrongFalsely : Prop := turnPairsRow.holds Tryz.pinned (OpenSpec.ofChange turnPairsWrong)

/-- 'linkworklaw12.TurnArcs': WHATEVER THE INPUT: true; the input reads as it did. -/
def turnArcsSpec : ChangeSpec := { name := "turnArcs", fn := fun _ => fun
  | [d1, d2, d3] => { results := [.lit (.bool true)], args := [d1, d2, d3] }
  | _ => none }
def turnArcsRow : OpenClaim := { program := "ytkcpphebkmnonaagreatdoor", sum := "1c4dc24ffcbdec86d1797d279dc86e72b381177972cac1bcdc0914bb316611e7", func := "linkwork/linkworklaw12.TurnArcs", spec := "turnArcs", recurses := true, named := ["math/bits.deBruijn64tab"], apart := false, laid := [("math/bits.deBruijn64tab", laid_math_bits_deBruijn64tab)] }
def TurnArcsSaid : Prop := turnArcsRow.holds Tryz.pinned (OpenSpec.ofChange turnArcsSpec)

/-- ITS FALSE NEIGHBOUR: 'it returns false'. Refute it at one input. -/
def turnArcsWrong : ChangeSpec := { name := "turnArcs", fn := fun _ => fun
  | [d1, d2, d3] => { results := [.lit (.bool false)], args := [d1, d2, d3] }
  | _ => none }
def TurnArcsWrongFalsely : Prop := turnArcsRow.holds Tryz.pinned (OpenSpec.ofChange turnArcsWrong)

/-- 'linkworklaw12.TurnGroup': WHATEVER THE INPUT: true; the input reads as it did. -/
def turnGroupSpec : ChangeSpec := { name := "turnGroup", fn := fun _ => fun
  | [d1, d2, d3] => { results := [.lit (.bool true)], args := [d1, d2, d3] }
  | _ => none }
def turnGroupRow : OpenClaim := { program := "ytkcpphebkmnonaagreatdoor", sum := "1c4dc24ffcbdec86d1797d279dc86e72b381177972cac1bcdc0914bb316611e7", func := "linkwork/linkworklaw12.TurnGroup", spec := "turnGroup", named := ["math/bits.deBruijn64tab"], apart := false, laid := [("math/bits.deBruijn64tab", laid_math_bits_deBruijn64tab)] }
def TurnGroupSaid : Prop := turnGroupRow.holds Tryz.pinned (OpenSpec.ofChange turnGroupSpec)

/-- ITS FALSE NEIGHBOUR: 'it returns false'. Refute it at one input. -/
def turnGroupWrong : ChangeSpec := { name := "turnGroup", fn := fun _ => fun
  | [d1, d2, d3] => { results := [.lit (.bool false)], args := [d1, d2, d3] }
  | _ => none }
def TurnGroupWrongFalsely : Prop := turnGroupRow.holds Tryz.pinned (OpenSpec.ofChange turnGroupWrong)

/-- 'linkworklaw12.TurnApplies': WHATEVER THE INPUT: true; the input reads as it did. -/
def turnAppliesSpec : ChangeSpec := { name := "turnApplies", fn := fun _ => fun
  | [d1, d2, d3] => { results := [.lit (.bool true)], args := [d1, d2, d3] }
  | _ => none }
def turnAppliesRow : OpenClaim := { program := "ytkcpphebkmnonaagreatdoor", sum := "1c4dc24ffcbdec86d1797d279dc86e72b381177972cac1bcdc0914bb316611e7", func := "linkwork/linkworklaw12.TurnApplies", spec := "turnApplies", named := ["math/bits.deBruijn64tab"], apart := false, laid := [("math/bits.deBruijn64tab", laid_math_bits_deBruijn64tab)] }
def TurnAppliesSaid : Prop := turnAppliesRow.holds Tryz.pinned (OpenSpec.ofChange turnAppliesSpec)

/-- ITS FALSE NEIGHBOUR: 'it returns false'. Refute it at one input. -/
def turnAppliesWrong : ChangeSpec := { name := "turnApplies", fn := fun _ => fun
  | [d1, d2, d3] => { results := [.lit (.bool false)], args := [d1, d2, d3] }
  | _ => none }
def TurnAppliesWrongFalsely : Prop := turnAppliesRow.holds Tryz.pinned (OpenSpec.ofChange turnAppliesWrong)

/-- 'linkworklaw12.TurnOrder': WHATEVER THE INPUT: true; the input reads as it did. -/
def turnOrderSpec : ChangeSpec := { name := "turnOrder", fn := fun _ => fun
  | [d1, d2, d3] => { results := [.lit (.bool true)], args := [d1, d2, d3] }
  | _ => none }
def turnOrderRow : OpenClaim := { program := "ytkcpphebkmnonaagreatdoor", sum := "1c4dc24ffcbdec86d1797d279dc86e72b381177972cac1bcdc0914bb316611e7", func := "linkwork/linkworklaw12.TurnOrder", spec := "turnOrder", named := ["math/bits.deBruijn64tab"], apart := false, laid := [("math/bits.deBruijn64tab", laid_math_bits_deBruijn64tab)] }
def TurnOrderSaid : Prop := turnOrderRow.holds Tryz.pinned (OpenSpec.ofChange turnOrderSpec)

/-- ITS FALSE NEIGHBOUR: 'it returns false'. Refute it at one input. -/
def turnOrderWrong : ChangeSpec := { name := "turnOrder", fn := fun _ => fun
  | [d1, d2, d3] => { results := [.lit (.bool false)], args := [d1, d2, d3] }
  | _ => none }
def TurnOrderWrongFalsely : Prop := turnOrderRow.holds Tryz.pinned (OpenSpec.ofChange turnOrderWrong)

/-- 'linkworklaw12.TurnTexts': WHATEVER THE INPUT: true; the input reads as it did. -/
def turnTextsSpec : ChangeSpec := { name := "turnTexts", fn := fun _ => fun
  | [d1, d2] => { results := [.lit (.bool true)], args := [d1, d2] }
  | _ => none }
def turnTextsRow : OpenClaim := { program := "ytkcpphebkmnonaagreatdoor", sum := "1c4dc24ffcbdec86d1797d279dc86e72b381177972cac1bcdc0914bb316611e7", func := "linkwork/linkworklaw12.TurnTexts", spec := "turnTexts", inPlace := ["internal/bytealg.IndexByteString", "internal/bytealg.IndexString"], named := ["math/bits.deBruijn64tab", "internal/strconv.uint64pow10", "math/bits.deBruijn32tab", "internal/bytealg.MaxLen"], apart := false, laid := [("math/bits.deBruijn32tab", laid_math_bits_deBruijn32tab), ("math/bits.deBruijn64tab", laid_math_bits_deBruijn64tab), ("internal/strconv.uint64pow10", laid_internal_strconv_uint64pow10)] }
def TurnTextsSaid : Prop := turnTextsRow.holds Tryz.pinned (OpenSpec.ofChange turnTextsSpec)

/-- ITS FALSE NEIGHBOUR: 'it returns false'. Refute it at one input. -/
def turnTextsWrong : ChangeSpec := { name := "turnTexts", fn := fun _ => fun
  | [d1, d2] => { results := [.lit (.bool false)], args := [d1, d2] }
  | _ => none }
def TurnTextsWrongFalsely : Prop := turnTextsRow.holds Tryz.pinned (OpenSpec.ofChange turnTextsWrong)

/- THE SECOND FORM. 'bulk': how many values and letters a reading holds, each counted each time it is reached (what is shared counts as often as it is met; a slice's spare places count too). A statement '..UptoSaid' is the law's where the arguments, and the package variables that the reading takes, are together of bulk at most 1048576: NARROWER than '..Said'. Prove '..Said' where nothing that the law and all that it calls make is longer than what came in: it says more and counts as full. Else prove '..UptoSaid'. A law counts once. -/
mutual
def uptoBulk {H : Type} : DataW H → Nat
  | .lit (.string bytes) => bytes.length + 1
  | .lit _ => 1
  | .nil => 1
  | .ptr d => uptoBulk d + 1
  | .slice elems spare => uptoBulkAll elems + uptoBulkAll spare + 1
  | .agg parts => uptoBulkAll parts + 1
  | .iface _ d => uptoBulk d + 1
  | .map entries => uptoBulkEntries entries + 1
  | .held _ => 1
def uptoBulkAll {H : Type} : List (DataW H) → Nat
  | [] => 0
  | d :: r => uptoBulk d + uptoBulkAll r
def uptoBulkEntries {H : Type} : List (Lit × DataW H) → Nat
  | [] => 0
  | x :: r => uptoBulkEntry x + uptoBulkEntries r
def uptoBulkEntry {H : Type} : Lit × DataW H → Nat
  | (.string bytes, d) => bytes.length + uptoBulk d + 1
  | (_, d) => uptoBulk d + 1
 end
def uptoSmall : (H : Type) → List (DataW H) → Bool := fun _ ds => decide (uptoBulkAll ds ≤ 1048576)
def OpenSpec.upto (s : _root_.Go.ChangeSpec) : _root_.Go.OpenSpec := { _root_.Go.OpenSpec.ofChange s with cond := some uptoSmall }

/-- 'linkworklaw12.TurnParts', WHERE WHAT IT READS IS OF BULK AT MOST 1048576: true; the input reads as it did. -/
def turnPartsUptoRow : OpenClaim := { program := "ytkcpphebkmnonaagreatdoor", sum := "1c4dc24ffcbdec86d1797d279dc86e72b381177972cac1bcdc0914bb316611e7", func := "linkwork/linkworklaw12.TurnParts", spec := "turnParts", named := ["math/bits.deBruijn64tab", "internal/strconv.uint64pow10", "math/bits.deBruijn32tab"], apart := false, laid := [("math/bits.deBruijn32tab", laid_math_bits_deBruijn32tab), ("math/bits.deBruijn64tab", laid_math_bits_deBruijn64tab), ("internal/strconv.uint64pow10", laid_internal_strconv_uint64pow10)], narrowed := true }
def TurnPartsUptoSaid : Prop := turnPartsUptoRow.holds Tryz.pinned (OpenSpec.upto turnPartsSpec)

/-- 'linkworklaw12.TurnMakes', WHERE WHAT IT READS IS OF BULK AT MOST 1048576: true; the input reads as it did. -/
def turnMakesUptoRow : OpenClaim := { program := "ytkcpphebkmnonaagreatdoor", sum := "1c4dc24ffcbdec86d1797d279dc86e72b381177972cac1bcdc0914bb316611e7", func := "linkwork/linkworklaw12.TurnMakes", spec := "turnMakes", inPlace := ["internal/bytealg.IndexByteString", "internal/bytealg.IndexString"], named := ["math/bits.deBruijn64tab", "internal/bytealg.MaxLen"], apart := false, laid := [("math/bits.deBruijn64tab", laid_math_bits_deBruijn64tab)], narrowed := true }
def TurnMakesUptoSaid : Prop := turnMakesUptoRow.holds Tryz.pinned (OpenSpec.upto turnMakesSpec)

/-- 'linkworklaw12.TurnPairs', WHERE WHAT IT READS IS OF BULK AT MOST 1048576: true; the input reads as it did. -/
def turnPairsUptoRow : OpenClaim := { program := "ytkcpphebkmnonaagreatdoor", sum := "1c4dc24ffcbdec86d1797d279dc86e72b381177972cac1bcdc0914bb316611e7", func := "linkwork/linkworklaw12.TurnPairs", spec := "turnPairs", recurses := true, named := ["math/bits.deBruijn64tab"], apart := false, laid := [("math/bits.deBruijn64tab", laid_math_bits_deBruijn64tab)], narrowed := true }
def TurnPairsUptoSaid : Prop := turnPairsUptoRow.holds Tryz.pinned (OpenSpec.upto turnPairsSpec)

/-- 'linkworklaw12.TurnArcs', WHERE WHAT IT READS IS OF BULK AT MOST 1048576: true; the input reads as it did. -/
def turnArcsUptoRow : OpenClaim := { program := "ytkcpphebkmnonaagreatdoor", sum := "1c4dc24ffcbdec86d1797d279dc86e72b381177972cac1bcdc0914bb316611e7", func := "linkwork/linkworklaw12.TurnArcs", spec := "turnArcs", recurses := true, named := ["math/bits.deBruijn64tab"], apart := false, laid := [("math/bits.deBruijn64tab", laid_math_bits_deBruijn64tab)], narrowed := true }
def TurnArcsUptoSaid : Prop := turnArcsUptoRow.holds Tryz.pinned (OpenSpec.upto turnArcsSpec)

/-- 'linkworklaw12.TurnGroup', WHERE WHAT IT READS IS OF BULK AT MOST 1048576: true; the input reads as it did. -/
def turnGroupUptoRow : OpenClaim := { program := "ytkcpphebkmnonaagreatdoor", sum := "1c4dc24ffcbdec86d1797d279dc86e72b381177972cac1bcdc0914bb316611e7", func := "linkwork/linkworklaw12.TurnGroup", spec := "turnGroup", named := ["math/bits.deBruijn64tab"], apart := false, laid := [("math/bits.deBruijn64tab", laid_math_bits_deBruijn64tab)], narrowed := true }
def TurnGroupUptoSaid : Prop := turnGroupUptoRow.holds Tryz.pinned (OpenSpec.upto turnGroupSpec)

/-- 'linkworklaw12.TurnApplies', WHERE WHAT IT READS IS OF BULK AT MOST 1048576: true; the input reads as it did. -/
def turnAppliesUptoRow : OpenClaim := { program := "ytkcpphebkmnonaagreatdoor", sum := "1c4dc24ffcbdec86d1797d279dc86e72b381177972cac1bcdc0914bb316611e7", func := "linkwork/linkworklaw12.TurnApplies", spec := "turnApplies", named := ["math/bits.deBruijn64tab"], apart := false, laid := [("math/bits.deBruijn64tab", laid_math_bits_deBruijn64tab)], narrowed := true }
def TurnAppliesUptoSaid : Prop := turnAppliesUptoRow.holds Tryz.pinned (OpenSpec.upto turnAppliesSpec)

/-- 'linkworklaw12.TurnOrder', WHERE WHAT IT READS IS OF BULK AT MOST 1048576: true; the input reads as it did. -/
def turnOrderUptoRow : OpenClaim := { program := "ytkcpphebkmnonaagreatdoor", sum := "1c4dc24ffcbdec86d1797d279dc86e72b381177972cac1bcdc0914bb316611e7", func := "linkwork/linkworklaw12.TurnOrder", spec := "turnOrder", named := ["math/bits.deBruijn64tab"], apart := false, laid := [("math/bits.deBruijn64tab", laid_math_bits_deBruijn64tab)], narrowed := true }
def TurnOrderUptoSaid : Prop := turnOrderUptoRow.holds Tryz.pinned (OpenSpec.upto turnOrderSpec)

/-- 'linkworklaw12.TurnTexts', WHERE WHAT IT READS IS OF BULK AT MOST 1048576: true; the input reads as it did. -/
def turnTextsUptoRow : OpenClaim := { program := "ytkcpphebkmnonaagreatdoor", sum := "1c4dc24ffcbdec86d1797d279dc86e72b381177972cac1bcdc0914bb316611e7", func := "linkwork/linkworklaw12.TurnTexts", spec := "turnTexts", inPlace := ["internal/bytealg.IndexByteString", "internal/bytealg.IndexString"], named := ["math/bits.deBruijn64tab", "internal/strconv.uint64pow10", "math/bits.deBruijn32tab", "internal/bytealg.MaxLen"], apart := false, laid := [("math/bits.deBruijn32tab", laid_math_bits_deBruijn32tab), ("math/bits.deBruijn64tab", laid_math_bits_deBruijn64tab), ("internal/strconv.uint64pow10", laid_internal_strconv_uint64pow10)], narrowed := true }
def TurnTextsUptoSaid : Prop := turnTextsUptoRow.holds Tryz.pinned (OpenSpec.upto turnTextsSpec)

end Rows
end Go.Proofs.YtkcpphebkmnonaaGreatDoor
