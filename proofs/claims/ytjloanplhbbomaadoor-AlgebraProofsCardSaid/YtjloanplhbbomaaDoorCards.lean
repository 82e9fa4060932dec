/-
  DERIVED. GIVEN WITH THE SEED: THE CARDS: each row of YtjloanplhbbomaaDoorRows.lean that lists a variable, with what it lists TIED to the program's text (the seventh form; the later family's looks); each row that meets fmt, with fmt's text TOLD by the authors' own Lean function (tested against real Go, not proved from fmt's source: count such statements apart). THE CARD IS WHAT COUNTS. Prove the row's statement (the work); the ties are given (YtjloanplhbbomaaDoorTie.lean); close each card by the builder's one call (the guide's Derived/Test/ToyasCard.lean, 'card_holds'). Laid BY PROGRAM, IN A SANDBOX (cutbox-door.mjs). By AI agents, Wed Nov 11 2026. No macro, syntax, notation, axiom, sorry.
-/
import Derived.Test.YtjloanplhbbomaaDoorRows
import GoSem.ClaimSeven
namespace Go.Proofs.YtjloanplhbbomaaDoor
namespace Rows

/-- THE TIED CARD OF 'fourfoldlaw03.AlgebraChecks'. -/
def algebraChecksCard : Claim7 := { stood := { row := algebraChecksRow, standIns := [], harness := (true, "7b406320c80cb1a2ab95dcc9dbe22aa84c35772322e945189c5f6cf8f0c2869b"), looks := false }, kinds := [], alts := [], laidByText := true, laidKinds := [.data, .data, .data], laidTests := true, laidLooks := .later }
def AlgebraChecksCardSaid : Prop := Claim7.holds Tryd.pinned (.plain (OpenSpec.ofChange algebraChecksSpec)) algebraChecksCard

/-- THE TIED CARD OF 'fourfoldlaw03.AlgebraSums'. -/
def algebraSumsCard : Claim7 := { stood := { row := algebraSumsRow, standIns := [], harness := (true, "7b406320c80cb1a2ab95dcc9dbe22aa84c35772322e945189c5f6cf8f0c2869b"), looks := false }, kinds := [], alts := [], laidByText := true, laidKinds := [.data, .data, .data], laidTests := true, laidLooks := .later }
def AlgebraSumsCardSaid : Prop := Claim7.holds Tryd.pinned (.plain (OpenSpec.ofChange algebraSumsSpec)) algebraSumsCard

/-- THE TIED CARD OF 'fourfoldlaw03.AlgebraProducts'. -/
def algebraProductsCard : Claim7 := { stood := { row := algebraProductsRow, standIns := [], harness := (true, "7b406320c80cb1a2ab95dcc9dbe22aa84c35772322e945189c5f6cf8f0c2869b"), looks := false }, kinds := [], alts := [], laidByText := true, laidKinds := [.data, .data, .data], laidTests := true, laidLooks := .later }
def AlgebraProductsCardSaid : Prop := Claim7.holds Tryd.pinned (.plain (OpenSpec.ofChange algebraProductsSpec)) algebraProductsCard

/-- THE TIED CARD OF 'fourfoldlaw03.AlgebraNorms'. -/
def algebraNormsCard : Claim7 := { stood := { row := algebraNormsRow, standIns := [], harness := (true, "7b406320c80cb1a2ab95dcc9dbe22aa84c35772322e945189c5f6cf8f0c2869b"), looks := false }, kinds := [], alts := [], laidByText := true, laidKinds := [.data, .data, .data], laidTests := true, laidLooks := .later }
def AlgebraNormsCardSaid : Prop := Claim7.holds Tryd.pinned (.plain (OpenSpec.ofChange algebraNormsSpec)) algebraNormsCard

/-- THE TIED CARD OF 'fourfoldlaw03.AlgebraInverses'. -/
def algebraInversesCard : Claim7 := { stood := { row := algebraInversesRow, standIns := [], harness := (true, "7b406320c80cb1a2ab95dcc9dbe22aa84c35772322e945189c5f6cf8f0c2869b"), looks := false }, kinds := [], alts := [], laidByText := true, laidKinds := [.data, .data, .data], laidTests := true, laidLooks := .later }
def AlgebraInversesCardSaid : Prop := Claim7.holds Tryd.pinned (.plain (OpenSpec.ofChange algebraInversesSpec)) algebraInversesCard

/-- THE TIED CARD OF 'fourfoldlaw03.AlgebraProofs'. -/
def algebraProofsCard : Claim7 := { stood := { row := algebraProofsRow, standIns := [], harness := (true, "7b406320c80cb1a2ab95dcc9dbe22aa84c35772322e945189c5f6cf8f0c2869b"), looks := false }, kinds := [], alts := [], laidByText := true, laidKinds := [.data, .data, .data], laidTests := true, laidLooks := .later }
def AlgebraProofsCardSaid : Prop := Claim7.holds Tryd.pinned (.plain (OpenSpec.ofChange algebraProofsSpec)) algebraProofsCard

/-- THE TIED CARD OF 'fourfoldlaw03.AlgebraMultiplies'. -/
def algebraMultipliesCard : Claim7 := { stood := { row := algebraMultipliesRow, standIns := [], harness := (true, "7b406320c80cb1a2ab95dcc9dbe22aa84c35772322e945189c5f6cf8f0c2869b"), looks := false }, kinds := [], alts := [], laidByText := true, laidKinds := [.data, .data, .data], laidTests := true, laidLooks := .later }
def AlgebraMultipliesCardSaid : Prop := Claim7.holds Tryd.pinned (.plain (OpenSpec.ofChange algebraMultipliesSpec)) algebraMultipliesCard

/-- THE TIED CARD OF 'fourfoldlaw03.AlgebraRing'. -/
def algebraRingCard : Claim7 := { stood := { row := algebraRingRow, standIns := [], harness := (true, "7b406320c80cb1a2ab95dcc9dbe22aa84c35772322e945189c5f6cf8f0c2869b"), looks := false }, kinds := [], alts := [], laidByText := true, laidKinds := [.data, .data, .data], laidTests := true, laidLooks := .later }
def AlgebraRingCardSaid : Prop := Claim7.holds Tryd.pinned (.plain (OpenSpec.ofChange algebraRingSpec)) algebraRingCard

/-- THE SECOND FORM's CARD OF 'fourfoldlaw03.AlgebraChecks'. -/
def algebraChecksUptoCard : Claim7 := { stood := { row := algebraChecksUptoRow, standIns := [], harness := (true, "7b406320c80cb1a2ab95dcc9dbe22aa84c35772322e945189c5f6cf8f0c2869b"), looks := false }, kinds := [], alts := [], laidByText := true, laidKinds := [.data, .data, .data], laidTests := true, laidLooks := .later }
def AlgebraChecksUptoCardSaid : Prop := Claim7.holds Tryd.pinned (.plain (OpenSpec.upto algebraChecksSpec)) algebraChecksUptoCard

/-- THE SECOND FORM's CARD OF 'fourfoldlaw03.AlgebraSums'. -/
def algebraSumsUptoCard : Claim7 := { stood := { row := algebraSumsUptoRow, standIns := [], harness := (true, "7b406320c80cb1a2ab95dcc9dbe22aa84c35772322e945189c5f6cf8f0c2869b"), looks := false }, kinds := [], alts := [], laidByText := true, laidKinds := [.data, .data, .data], laidTests := true, laidLooks := .later }
def AlgebraSumsUptoCardSaid : Prop := Claim7.holds Tryd.pinned (.plain (OpenSpec.upto algebraSumsSpec)) algebraSumsUptoCard

/-- THE SECOND FORM's CARD OF 'fourfoldlaw03.AlgebraProducts'. -/
def algebraProductsUptoCard : Claim7 := { stood := { row := algebraProductsUptoRow, standIns := [], harness := (true, "7b406320c80cb1a2ab95dcc9dbe22aa84c35772322e945189c5f6cf8f0c2869b"), looks := false }, kinds := [], alts := [], laidByText := true, laidKinds := [.data, .data, .data], laidTests := true, laidLooks := .later }
def AlgebraProductsUptoCardSaid : Prop := Claim7.holds Tryd.pinned (.plain (OpenSpec.upto algebraProductsSpec)) algebraProductsUptoCard

/-- THE SECOND FORM's CARD OF 'fourfoldlaw03.AlgebraNorms'. -/
def algebraNormsUptoCard : Claim7 := { stood := { row := algebraNormsUptoRow, standIns := [], harness := (true, "7b406320c80cb1a2ab95dcc9dbe22aa84c35772322e945189c5f6cf8f0c2869b"), looks := false }, kinds := [], alts := [], laidByText := true, laidKinds := [.data, .data, .data], laidTests := true, laidLooks := .later }
def AlgebraNormsUptoCardSaid : Prop := Claim7.holds Tryd.pinned (.plain (OpenSpec.upto algebraNormsSpec)) algebraNormsUptoCard

/-- THE SECOND FORM's CARD OF 'fourfoldlaw03.AlgebraInverses'. -/
def algebraInversesUptoCard : Claim7 := { stood := { row := algebraInversesUptoRow, standIns := [], harness := (true, "7b406320c80cb1a2ab95dcc9dbe22aa84c35772322e945189c5f6cf8f0c2869b"), looks := false }, kinds := [], alts := [], laidByText := true, laidKinds := [.data, .data, .data], laidTests := true, laidLooks := .later }
def AlgebraInversesUptoCardSaid : Prop := Claim7.holds Tryd.pinned (.plain (OpenSpec.upto algebraInversesSpec)) algebraInversesUptoCard

/-- THE SECOND FORM's CARD OF 'fourfoldlaw03.AlgebraProofs'. -/
def algebraProofsUptoCard : Claim7 := { stood := { row := algebraProofsUptoRow, standIns := [], harness := (true, "7b406320c80cb1a2ab95dcc9dbe22aa84c35772322e945189c5f6cf8f0c2869b"), looks := false }, kinds := [], alts := [], laidByText := true, laidKinds := [.data, .data, .data], laidTests := true, laidLooks := .later }
def AlgebraProofsUptoCardSaid : Prop := Claim7.holds Tryd.pinned (.plain (OpenSpec.upto algebraProofsSpec)) algebraProofsUptoCard

/-- THE SECOND FORM's CARD OF 'fourfoldlaw03.AlgebraMultiplies'. -/
def algebraMultipliesUptoCard : Claim7 := { stood := { row := algebraMultipliesUptoRow, standIns := [], harness := (true, "7b406320c80cb1a2ab95dcc9dbe22aa84c35772322e945189c5f6cf8f0c2869b"), looks := false }, kinds := [], alts := [], laidByText := true, laidKinds := [.data, .data, .data], laidTests := true, laidLooks := .later }
def AlgebraMultipliesUptoCardSaid : Prop := Claim7.holds Tryd.pinned (.plain (OpenSpec.upto algebraMultipliesSpec)) algebraMultipliesUptoCard

/-- THE SECOND FORM's CARD OF 'fourfoldlaw03.AlgebraRing'. -/
def algebraRingUptoCard : Claim7 := { stood := { row := algebraRingUptoRow, standIns := [], harness := (true, "7b406320c80cb1a2ab95dcc9dbe22aa84c35772322e945189c5f6cf8f0c2869b"), looks := false }, kinds := [], alts := [], laidByText := true, laidKinds := [.data, .data, .data], laidTests := true, laidLooks := .later }
def AlgebraRingUptoCardSaid : Prop := Claim7.holds Tryd.pinned (.plain (OpenSpec.upto algebraRingSpec)) algebraRingUptoCard
end Rows
end Go.Proofs.YtjloanplhbbomaaDoor
