/-
  NARROWER THAN 'FOR EVERY INPUT', by the rows' own cells (each row's printed sentence says how): AlgebraChecks: laid · AlgebraSums: laid · AlgebraProducts: laid · AlgebraNorms: laid · AlgebraInverses: laid · AlgebraProofs: laid · AlgebraMultiplies: laid · AlgebraRing: laid.
  DERIVED. THE GIVEN ROWS OF THIS SEAT. 8 by the template 'for every input the law returns true; each argument reads behind the call as it read before'; 0 by the template 'total and deterministic' (their statements: YtjloanplhbbomaaDoorTotals.lean).
  GIVEN WITH THE SEED: the statements are not yours to turn. If you find one false, say at which input.
  Laid BY PROGRAM, IN A SANDBOX (cutbox-rows.mjs): the forced cells as the released guide's own fill.sh prints them over the translation b12cf32202fb97a5… (all of the seat's roots in one cut). By AI agents, Wed Nov 11 2026. No macro, syntax, notation, axiom, sorry.
-/
import Derived.Test.YtjloanplhbbomaaDoorChecked
import GoSem.Claim
import GoSem.ClaimJoined
import GoSem.ClaimMapViews
import Derived.JoinedTies
import Derived.KernelRfl
namespace Go.Proofs.YtjloanplhbbomaaDoor
/- THE CELL 'sum', in the pinned program and in every row, IS THE sha256 OF THE DUMP (.gsa) THAT YtjloanplhbbomaaDoorProg.lean LOADS. Nothing in Lean hashes anything: it is a label: what it is worth is what the hold of that sum in a sandbox is worth. -/
noncomputable def Tryd.pinned : Pinned := { name := "ytjloanplhbbomaadoor", sum := "b12cf32202fb97a5c6ed15e77527064479d79b0ace3cda6981b500f10610edbf", checked := Tryd.checked }
namespace Rows
def none {H : Type} : Left H := { results := [], args := [] }

/- WHAT THE LISTED PACKAGE-LEVEL VARIABLES READ AS WHEN THE CALL BEGINS. Each datum BY PROGRAM (the guide's laid-datum.mjs) off the statement by which the dump's own 'gosem.cut.vars' lays the variable. In a bare row this is a premise. The card (YtjloanplhbbomaaDoorCards.lean) ties it to the program's text. -/
def laid_math_bits_deBruijn32tab {H : Type} : DataW H := .agg [.lit (.int .u8 0), .lit (.int .u8 1), .lit (.int .u8 28), .lit (.int .u8 2), .lit (.int .u8 29), .lit (.int .u8 14), .lit (.int .u8 24), .lit (.int .u8 3), .lit (.int .u8 30), .lit (.int .u8 22), .lit (.int .u8 20), .lit (.int .u8 15), .lit (.int .u8 25), .lit (.int .u8 17), .lit (.int .u8 4), .lit (.int .u8 8), .lit (.int .u8 31), .lit (.int .u8 27), .lit (.int .u8 13), .lit (.int .u8 23), .lit (.int .u8 21), .lit (.int .u8 19), .lit (.int .u8 16), .lit (.int .u8 7), .lit (.int .u8 26), .lit (.int .u8 12), .lit (.int .u8 18), .lit (.int .u8 6), .lit (.int .u8 11), .lit (.int .u8 5), .lit (.int .u8 10), .lit (.int .u8 9)]
def laid_math_bits_deBruijn64tab {H : Type} : DataW H := .agg [.lit (.int .u8 0), .lit (.int .u8 1), .lit (.int .u8 56), .lit (.int .u8 2), .lit (.int .u8 57), .lit (.int .u8 49), .lit (.int .u8 28), .lit (.int .u8 3), .lit (.int .u8 61), .lit (.int .u8 58), .lit (.int .u8 42), .lit (.int .u8 50), .lit (.int .u8 38), .lit (.int .u8 29), .lit (.int .u8 17), .lit (.int .u8 4), .lit (.int .u8 62), .lit (.int .u8 47), .lit (.int .u8 59), .lit (.int .u8 36), .lit (.int .u8 45), .lit (.int .u8 43), .lit (.int .u8 51), .lit (.int .u8 22), .lit (.int .u8 53), .lit (.int .u8 39), .lit (.int .u8 33), .lit (.int .u8 30), .lit (.int .u8 24), .lit (.int .u8 18), .lit (.int .u8 12), .lit (.int .u8 5), .lit (.int .u8 63), .lit (.int .u8 55), .lit (.int .u8 48), .lit (.int .u8 27), .lit (.int .u8 60), .lit (.int .u8 41), .lit (.int .u8 37), .lit (.int .u8 16), .lit (.int .u8 46), .lit (.int .u8 35), .lit (.int .u8 44), .lit (.int .u8 21), .lit (.int .u8 52), .lit (.int .u8 32), .lit (.int .u8 23), .lit (.int .u8 11), .lit (.int .u8 54), .lit (.int .u8 26), .lit (.int .u8 40), .lit (.int .u8 15), .lit (.int .u8 34), .lit (.int .u8 20), .lit (.int .u8 31), .lit (.int .u8 10), .lit (.int .u8 25), .lit (.int .u8 14), .lit (.int .u8 19), .lit (.int .u8 9), .lit (.int .u8 13), .lit (.int .u8 8), .lit (.int .u8 7), .lit (.int .u8 6)]
def laid_internal_strconv_uint64pow10 {H : Type} : DataW H := .agg [.lit (.int .u64 1), .lit (.int .u64 10), .lit (.int .u64 100), .lit (.int .u64 1000), .lit (.int .u64 10000), .lit (.int .u64 100000), .lit (.int .u64 1000000), .lit (.int .u64 10000000), .lit (.int .u64 100000000), .lit (.int .u64 1000000000), .lit (.int .u64 10000000000), .lit (.int .u64 100000000000), .lit (.int .u64 1000000000000), .lit (.int .u64 10000000000000), .lit (.int .u64 100000000000000), .lit (.int .u64 1000000000000000), .lit (.int .u64 10000000000000000), .lit (.int .u64 100000000000000000), .lit (.int .u64 1000000000000000000), .lit (.int .u64 10000000000000000000)]

/-- 'fourfoldlaw03.AlgebraChecks': WHATEVER THE INPUT: true; the input reads as it did. -/
def algebraChecksSpec : ChangeSpec := { name := "algebraChecks", fn := fun _ => fun
  | [d1, d2] => { results := [.lit (.bool true)], args := [d1, d2] }
  | _ => none }
def algebraChecksRow : OpenClaim := { program := "ytjloanplhbbomaadoor", sum := "b12cf32202fb97a5c6ed15e77527064479d79b0ace3cda6981b500f10610edbf", func := "fourfold/fourfoldlaw03.AlgebraChecks", spec := "algebraChecks", named := ["internal/strconv.uint64pow10", "math/bits.deBruijn32tab", "math/bits.deBruijn64tab"], apart := false, laid := [("math/bits.deBruijn32tab", laid_math_bits_deBruijn32tab), ("math/bits.deBruijn64tab", laid_math_bits_deBruijn64tab), ("internal/strconv.uint64pow10", laid_internal_strconv_uint64pow10)] }
def AlgebraChecksSaid : Prop := algebraChecksRow.holds Tryd.pinned (OpenSpec.ofChange algebraChecksSpec)

/-- ITS FALSE NEIGHBOUR: 'it returns false'. Refute it at one input. -/
def algebraChecksWrong : ChangeSpec := { name := "algebraChecks", fn := fun _ => fun
  | [d1, d2] => { results := [.lit (.bool false)], args := [d1, d2] }
  | _ => none }
def AlgebraChecksWrongFalsely : Prop := algebraChecksRow.holds Tryd.pinned (OpenSpec.ofChange algebraChecksWrong)

/-- 'fourfoldlaw03.AlgebraSums': WHATEVER THE INPUT: true; the input reads as it did. -/
def algebraSumsSpec : ChangeSpec := { name := "algebraSums", fn := fun _ => fun
  | [d1, d2, d3] => { results := [.lit (.bool true)], args := [d1, d2, d3] }
  | _ => none }
def algebraSumsRow : OpenClaim := { program := "ytjloanplhbbomaadoor", sum := "b12cf32202fb97a5c6ed15e77527064479d79b0ace3cda6981b500f10610edbf", func := "fourfold/fourfoldlaw03.AlgebraSums", spec := "algebraSums", named := ["internal/strconv.uint64pow10", "math/bits.deBruijn32tab", "math/bits.deBruijn64tab"], apart := false, laid := [("math/bits.deBruijn32tab", laid_math_bits_deBruijn32tab), ("math/bits.deBruijn64tab", laid_math_bits_deBruijn64tab), ("internal/strconv.uint64pow10", laid_internal_strconv_uint64pow10)] }
def AlgebraSumsSaid : Prop := algebraSumsRow.holds Tryd.pinned (OpenSpec.ofChange algebraSumsSpec)

/-- ITS FALSE NEIGHBOUR: 'it returns false'. Refute it at one input. -/
def algebraSumsWrong : ChangeSpec := { name := "algebraSums", fn := fun _ => fun
  | [d1, d2, d3] => { results := [.lit (.bool false)], args := [d1, d2, d3] }
  | _ => none }
def AlgebraSumsWrongFalsely : Prop := algebraSumsRow.holds Tryd.pinned (OpenSpec.ofChange algebraSumsWrong)

/-- 'fourfoldlaw03.AlgebraProducts': WHATEVER THE INPUT: true; the input reads as it did. -/
def algebraProductsSpec : ChangeSpec := { name := "algebraProducts", fn := fun _ => fun
  | [d1, d2, d3] => { results := [.lit (.bool true)], args := [d1, d2, d3] }
  | _ => none }
def algebraProductsRow : OpenClaim := { program := "ytjloanplhbbomaadoor", sum := "b12cf32202fb97a5c6ed15e77527064479d79b0ace3cda6981b500f10610edbf", func := "fourfold/fourfoldlaw03.AlgebraProducts", spec := "algebraProducts", named := ["internal/strconv.uint64pow10", "math/bits.deBruijn32tab", "math/bits.deBruijn64tab"], apart := false, laid := [("math/bits.deBruijn32tab", laid_math_bits_deBruijn32tab), ("math/bits.deBruijn64tab", laid_math_bits_deBruijn64tab), ("internal/strconv.uint64pow10", laid_internal_strconv_uint64pow10)] }
def AlgebraProductsSaid : Prop := algebraProductsRow.holds Tryd.pinned (OpenSpec.ofChange algebraProductsSpec)

/-- ITS FALSE NEIGHBOUR: 'it returns false'. Refute it at one input. -/
def algebraProductsWrong : ChangeSpec := { name := "algebraProducts", fn := fun _ => fun
  | [d1, d2, d3] => { results := [.lit (.bool false)], args := [d1, d2, d3] }
  | _ => none }
def AlgebraProductsWrongFalsely : Prop := algebraProductsRow.holds Tryd.pinned (OpenSpec.ofChange algebraProductsWrong)

/-- 'fourfoldlaw03.AlgebraNorms': WHATEVER THE INPUT: true; the input reads as it did. -/
def algebraNormsSpec : ChangeSpec := { name := "algebraNorms", fn := fun _ => fun
  | [d1, d2] => { results := [.lit (.bool true)], args := [d1, d2] }
  | _ => none }
def algebraNormsRow : OpenClaim := { program := "ytjloanplhbbomaadoor", sum := "b12cf32202fb97a5c6ed15e77527064479d79b0ace3cda6981b500f10610edbf", func := "fourfold/fourfoldlaw03.AlgebraNorms", spec := "algebraNorms", named := ["internal/strconv.uint64pow10", "math/bits.deBruijn32tab", "math/bits.deBruijn64tab"], apart := false, laid := [("math/bits.deBruijn32tab", laid_math_bits_deBruijn32tab), ("math/bits.deBruijn64tab", laid_math_bits_deBruijn64tab), ("internal/strconv.uint64pow10", laid_internal_strconv_uint64pow10)] }
def AlgebraNormsSaid : Prop := algebraNormsRow.holds Tryd.pinned (OpenSpec.ofChange algebraNormsSpec)

/-- ITS FALSE NEIGHBOUR: 'it returns false'. Refute it at one input. -/
def algebraNormsWrong : ChangeSpec := { name := "algebraNorms", fn := fun _ => fun
  | [d1, d2] => { results := [.lit (.bool false)], args := [d1, d2] }
  | _ => none }
def AlgebraNormsWrongFalsely : Prop := algebraNormsRow.holds Tryd.pinned (OpenSpec.ofChange algebraNormsWrong)

/-- 'fourfoldlaw03.AlgebraInverses': WHATEVER THE INPUT: true; the input reads as it did. -/
def algebraInversesSpec : ChangeSpec := { name := "algebraInverses", fn := fun _ => fun
  | [d1, d2, d3] => { results := [.lit (.bool true)], args := [d1, d2, d3] }
  | _ => none }
def algebraInversesRow : OpenClaim := { program := "ytjloanplhbbomaadoor", sum := "b12cf32202fb97a5c6ed15e77527064479d79b0ace3cda6981b500f10610edbf", func := "fourfold/fourfoldlaw03.AlgebraInverses", spec := "algebraInverses", named := ["internal/strconv.uint64pow10", "math/bits.deBruijn32tab", "math/bits.deBruijn64tab"], apart := false, laid := [("math/bits.deBruijn32tab", laid_math_bits_deBruijn32tab), ("math/bits.deBruijn64tab", laid_math_bits_deBruijn64tab), ("internal/strconv.uint64pow10", laid_internal_strconv_uint64pow10)] }
def AlgebraInversesSaid : Prop := algebraInversesRow.holds Tryd.pinned (OpenSpec.ofChange algebraInversesSpec)

/-- ITS FALSE NEIGHBOUR: 'it returns false'. Refute it at one input. -/
def algebraInversesWrong : ChangeSpec := { name := "algebraInverses", fn := fun _ => fun
  | [d1, d2, d3] => { results := [.lit (.bool false)], args := [d1, d2, d3] }
  | _ => none }
def AlgebraInversesWrongFalsely : Prop := algebraInversesRow.holds Tryd.pinned (OpenSpec.ofChange algebraInversesWrong)

/-- 'fourfoldlaw03.AlgebraProofs': WHATEVER THE INPUT: true; the input reads as it did. -/
def algebraProofsSpec : ChangeSpec := { name := "algebraProofs", fn := fun _ => fun
  | [d1, d2, d3] => { results := [.lit (.bool true)], args := [d1, d2, d3] }
  | _ => none }
def algebraProofsRow : OpenClaim := { program := "ytjloanplhbbomaadoor", sum := "b12cf32202fb97a5c6ed15e77527064479d79b0ace3cda6981b500f10610edbf", func := "fourfold/fourfoldlaw03.AlgebraProofs", spec := "algebraProofs", named := ["internal/strconv.uint64pow10", "math/bits.deBruijn32tab", "math/bits.deBruijn64tab"], apart := false, laid := [("math/bits.deBruijn32tab", laid_math_bits_deBruijn32tab), ("math/bits.deBruijn64tab", laid_math_bits_deBruijn64tab), ("internal/strconv.uint64pow10", laid_internal_strconv_uint64pow10)] }
def AlgebraProofsSaid : Prop := algebraProofsRow.holds Tryd.pinned (OpenSpec.ofChange algebraProofsSpec)

/-- ITS FALSE NEIGHBOUR: 'it returns false'. Refute it at one input. -/
def algebraProofsWrong : ChangeSpec := { name := "algebraProofs", fn := fun _ => fun
  | [d1, d2, d3] => { results := [.lit (.bool false)], args := [d1, d2, d3] }
  | _ => none }
def AlgebraProofsWrongFalsely : Prop := algebraProofsRow.holds Tryd.pinned (OpenSpec.ofChange algebraProofsWrong)

/-- 'fourfoldlaw03.AlgebraMultiplies': WHATEVER THE INPUT: true; the input reads as it did. -/
def algebraMultipliesSpec : ChangeSpec := { name := "algebraMultiplies", fn := fun _ => fun
  | [d1, d2, d3] => { results := [.lit (.bool true)], args := [d1, d2, d3] }
  | _ => none }
def algebraMultipliesRow : OpenClaim := { program := "ytjloanplhbbomaadoor", sum := "b12cf32202fb97a5c6ed15e77527064479d79b0ace3cda6981b500f10610edbf", func := "fourfold/fourfoldlaw03.AlgebraMultiplies", spec := "algebraMultiplies", named := ["internal/strconv.uint64pow10", "math/bits.deBruijn32tab", "math/bits.deBruijn64tab"], apart := false, laid := [("math/bits.deBruijn32tab", laid_math_bits_deBruijn32tab), ("math/bits.deBruijn64tab", laid_math_bits_deBruijn64tab), ("internal/strconv.uint64pow10", laid_internal_strconv_uint64pow10)] }
def AlgebraMultipliesSaid : Prop := algebraMultipliesRow.holds Tryd.pinned (OpenSpec.ofChange algebraMultipliesSpec)

/-- ITS FALSE NEIGHBOUR: 'it returns false'. Refute it at one input. -/
def algebraMultipliesWrong : ChangeSpec := { name := "algebraMultiplies", fn := fun _ => fun
  | [d1, d2, d3] => { results := [.lit (.bool false)], args := [d1, d2, d3] }
  | _ => none }
def AlgebraMultipliesWrongFalsely : Prop := algebraMultipliesRow.holds Tryd.pinned (OpenSpec.ofChange algebraMultipliesWrong)

/-- 'fourfoldlaw03.AlgebraRing': WHATEVER THE INPUT: true; the input reads as it did. -/
def algebraRingSpec : ChangeSpec := { name := "algebraRing", fn := fun _ => fun
  | [d1, d2] => { results := [.lit (.bool true)], args := [d1, d2] }
  | _ => none }
def algebraRingRow : OpenClaim := { program := "ytjloanplhbbomaadoor", sum := "b12cf32202fb97a5c6ed15e77527064479d79b0ace3cda6981b500f10610edbf", func := "fourfold/fourfoldlaw03.AlgebraRing", spec := "algebraRing", named := ["internal/strconv.uint64pow10", "math/bits.deBruijn32tab", "math/bits.deBruijn64tab"], apart := false, laid := [("math/bits.deBruijn32tab", laid_math_bits_deBruijn32tab), ("math/bits.deBruijn64tab", laid_math_bits_deBruijn64tab), ("internal/strconv.uint64pow10", laid_internal_strconv_uint64pow10)] }
def AlgebraRingSaid : Prop := algebraRingRow.holds Tryd.pinned (OpenSpec.ofChange algebraRingSpec)

/-- ITS FALSE NEIGHBOUR: 'it returns false'. Refute it at one input. -/
def algebraRingWrong : ChangeSpec := { name := "algebraRing", fn := fun _ => fun
  | [d1, d2] => { results := [.lit (.bool false)], args := [d1, d2] }
  | _ => none }
def AlgebraRingWrongFalsely : Prop := algebraRingRow.holds Tryd.pinned (OpenSpec.ofChange algebraRingWrong)

/- THE SECOND FORM. 'bulk': how many values and letters a reading holds, each counted each time it is reached (what is shared counts as often as it is met; a slice's spare places count too). A statement '..UptoSaid' is the law's where the arguments, and the package variables that the reading takes, are together of bulk at most 1048576: NARROWER than '..Said'. Prove '..Said' where nothing that the law and all that it calls make is longer than what came in: it says more and counts as full. Else prove '..UptoSaid'. A law counts once. -/
mutual
def uptoBulk {H : Type} : DataW H → Nat
  | .lit (.string bytes) => bytes.length + 1
  | .lit _ => 1
  | .nil => 1
  | .ptr d => uptoBulk d + 1
  | .slice elems spare => uptoBulkAll elems + uptoBulkAll spare + 1
  | .agg parts => uptoBulkAll parts + 1
  | .iface _ d => uptoBulk d + 1
  | .map entries => uptoBulkEntries entries + 1
  | .held _ => 1
def uptoBulkAll {H : Type} : List (DataW H) → Nat
  | [] => 0
  | d :: r => uptoBulk d + uptoBulkAll r
def uptoBulkEntries {H : Type} : List (Lit × DataW H) → Nat
  | [] => 0
  | x :: r => uptoBulkEntry x + uptoBulkEntries r
def uptoBulkEntry {H : Type} : Lit × DataW H → Nat
  | (.string bytes, d) => bytes.length + uptoBulk d + 1
  | (_, d) => uptoBulk d + 1
 end
def uptoSmall : (H : Type) → List (DataW H) → Bool := fun _ ds => decide (uptoBulkAll ds ≤ 1048576)
def OpenSpec.upto (s : _root_.Go.ChangeSpec) : _root_.Go.OpenSpec := { _root_.Go.OpenSpec.ofChange s with cond := some uptoSmall }

/-- 'fourfoldlaw03.AlgebraChecks', WHERE WHAT IT READS IS OF BULK AT MOST 1048576: true; the input reads as it did. -/
def algebraChecksUptoRow : OpenClaim := { program := "ytjloanplhbbomaadoor", sum := "b12cf32202fb97a5c6ed15e77527064479d79b0ace3cda6981b500f10610edbf", func := "fourfold/fourfoldlaw03.AlgebraChecks", spec := "algebraChecks", named := ["internal/strconv.uint64pow10", "math/bits.deBruijn32tab", "math/bits.deBruijn64tab"], apart := false, laid := [("math/bits.deBruijn32tab", laid_math_bits_deBruijn32tab), ("math/bits.deBruijn64tab", laid_math_bits_deBruijn64tab), ("internal/strconv.uint64pow10", laid_internal_strconv_uint64pow10)], narrowed := true }
def AlgebraChecksUptoSaid : Prop := algebraChecksUptoRow.holds Tryd.pinned (OpenSpec.upto algebraChecksSpec)

/-- 'fourfoldlaw03.AlgebraSums', WHERE WHAT IT READS IS OF BULK AT MOST 1048576: true; the input reads as it did. -/
def algebraSumsUptoRow : OpenClaim := { program := "ytjloanplhbbomaadoor", sum := "b12cf32202fb97a5c6ed15e77527064479d79b0ace3cda6981b500f10610edbf", func := "fourfold/fourfoldlaw03.AlgebraSums", spec := "algebraSums", named := ["internal/strconv.uint64pow10", "math/bits.deBruijn32tab", "math/bits.deBruijn64tab"], apart := false, laid := [("math/bits.deBruijn32tab", laid_math_bits_deBruijn32tab), ("math/bits.deBruijn64tab", laid_math_bits_deBruijn64tab), ("internal/strconv.uint64pow10", laid_internal_strconv_uint64pow10)], narrowed := true }
def AlgebraSumsUptoSaid : Prop := algebraSumsUptoRow.holds Tryd.pinned (OpenSpec.upto algebraSumsSpec)

/-- 'fourfoldlaw03.AlgebraProducts', WHERE WHAT IT READS IS OF BULK AT MOST 1048576: true; the input reads as it did. -/
def algebraProductsUptoRow : OpenClaim := { program := "ytjloanplhbbomaadoor", sum := "b12cf32202fb97a5c6ed15e77527064479d79b0ace3cda6981b500f10610edbf", func := "fourfold/fourfoldlaw03.AlgebraProducts", spec := "algebraProducts", named := ["internal/strconv.uint64pow10", "math/bits.deBruijn32tab", "math/bits.deBruijn64tab"], apart := false, laid := [("math/bits.deBruijn32tab", laid_math_bits_deBruijn32tab), ("math/bits.deBruijn64tab", laid_math_bits_deBruijn64tab), ("internal/strconv.uint64pow10", laid_internal_strconv_uint64pow10)], narrowed := true }
def AlgebraProductsUptoSaid : Prop := algebraProductsUptoRow.holds Tryd.pinned (OpenSpec.upto algebraProductsSpec)

/-- 'fourfoldlaw03.AlgebraNorms', WHERE WHAT IT READS IS OF BULK AT MOST 1048576: true; the input reads as it did. -/
def algebraNormsUptoRow : OpenClaim := { program := "ytjloanplhbbomaadoor", sum := "b12cf32202fb97a5c6ed15e77527064479d79b0ace3cda6981b500f10610edbf", func := "fourfold/fourfoldlaw03.AlgebraNorms", spec := "algebraNorms", named := ["internal/strconv.uint64pow10", "math/bits.deBruijn32tab", "math/bits.deBruijn64tab"], apart := false, laid := [("math/bits.deBruijn32tab", laid_math_bits_deBruijn32tab), ("math/bits.deBruijn64tab", laid_math_bits_deBruijn64tab), ("internal/strconv.uint64pow10", laid_internal_strconv_uint64pow10)], narrowed := true }
def AlgebraNormsUptoSaid : Prop := algebraNormsUptoRow.holds Tryd.pinned (OpenSpec.upto algebraNormsSpec)

/-- 'fourfoldlaw03.AlgebraInverses', WHERE WHAT IT READS IS OF BULK AT MOST 1048576: true; the input reads as it did. -/
def algebraInversesUptoRow : OpenClaim := { program := "ytjloanplhbbomaadoor", sum := "b12cf32202fb97a5c6ed15e77527064479d79b0ace3cda6981b500f10610edbf", func := "fourfold/fourfoldlaw03.AlgebraInverses", spec := "algebraInverses", named := ["internal/strconv.uint64pow10", "math/bits.deBruijn32tab", "math/bits.deBruijn64tab"], apart := false, laid := [("math/bits.deBruijn32tab", laid_math_bits_deBruijn32tab), ("math/bits.deBruijn64tab", laid_math_bits_deBruijn64tab), ("internal/strconv.uint64pow10", laid_internal_strconv_uint64pow10)], narrowed := true }
def AlgebraInversesUptoSaid : Prop := algebraInversesUptoRow.holds Tryd.pinned (OpenSpec.upto algebraInversesSpec)

/-- 'fourfoldlaw03.AlgebraProofs', WHERE WHAT IT READS IS OF BULK AT MOST 1048576: true; the input reads as it did. -/
def algebraProofsUptoRow : OpenClaim := { program := "ytjloanplhbbomaadoor", sum := "b12cf32202fb97a5c6ed15e77527064479d79b0ace3cda6981b500f10610edbf", func := "fourfold/fourfoldlaw03.AlgebraProofs", spec := "algebraProofs", named := ["internal/strconv.uint64pow10", "math/bits.deBruijn32tab", "math/bits.deBruijn64tab"], apart := false, laid := [("math/bits.deBruijn32tab", laid_math_bits_deBruijn32tab), ("math/bits.deBruijn64tab", laid_math_bits_deBruijn64tab), ("internal/strconv.uint64pow10", laid_internal_strconv_uint64pow10)], narrowed := true }
def AlgebraProofsUptoSaid : Prop := algebraProofsUptoRow.holds Tryd.pinned (OpenSpec.upto algebraProofsSpec)

/-- 'fourfoldlaw03.AlgebraMultiplies', WHERE WHAT IT READS IS OF BULK AT MOST 1048576: true; the input reads as it did. -/
def algebraMultipliesUptoRow : OpenClaim := { program := "ytjloanplhbbomaadoor", sum := "b12cf32202fb97a5c6ed15e77527064479d79b0ace3cda6981b500f10610edbf", func := "fourfold/fourfoldlaw03.AlgebraMultiplies", spec := "algebraMultiplies", named := ["internal/strconv.uint64pow10", "math/bits.deBruijn32tab", "math/bits.deBruijn64tab"], apart := false, laid := [("math/bits.deBruijn32tab", laid_math_bits_deBruijn32tab), ("math/bits.deBruijn64tab", laid_math_bits_deBruijn64tab), ("internal/strconv.uint64pow10", laid_internal_strconv_uint64pow10)], narrowed := true }
def AlgebraMultipliesUptoSaid : Prop := algebraMultipliesUptoRow.holds Tryd.pinned (OpenSpec.upto algebraMultipliesSpec)

/-- 'fourfoldlaw03.AlgebraRing', WHERE WHAT IT READS IS OF BULK AT MOST 1048576: true; the input reads as it did. -/
def algebraRingUptoRow : OpenClaim := { program := "ytjloanplhbbomaadoor", sum := "b12cf32202fb97a5c6ed15e77527064479d79b0ace3cda6981b500f10610edbf", func := "fourfold/fourfoldlaw03.AlgebraRing", spec := "algebraRing", named := ["internal/strconv.uint64pow10", "math/bits.deBruijn32tab", "math/bits.deBruijn64tab"], apart := false, laid := [("math/bits.deBruijn32tab", laid_math_bits_deBruijn32tab), ("math/bits.deBruijn64tab", laid_math_bits_deBruijn64tab), ("internal/strconv.uint64pow10", laid_internal_strconv_uint64pow10)], narrowed := true }
def AlgebraRingUptoSaid : Prop := algebraRingUptoRow.holds Tryd.pinned (OpenSpec.upto algebraRingSpec)

end Rows
end Go.Proofs.YtjloanplhbbomaaDoor
