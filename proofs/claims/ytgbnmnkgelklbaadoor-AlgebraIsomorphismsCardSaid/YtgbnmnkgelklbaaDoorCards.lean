/-
  DERIVED. GIVEN WITH THE SEED: THE CARDS: each row of YtgbnmnkgelklbaaDoorRows.lean that lists a variable, with what it lists TIED to the program's text (the seventh form; the later family's looks); each row that meets fmt, with fmt's text TOLD by the authors' own Lean function (tested against real Go, not proved from fmt's source: count such statements apart). THE CARD IS WHAT COUNTS. Prove the row's statement (the work); the ties are given (YtgbnmnkgelklbaaDoorTie.lean); close each card by the builder's one call (the guide's Derived/Test/ToyasCard.lean, 'card_holds'). Laid BY PROGRAM, IN A SANDBOX (cutbox-door.mjs). By AI agents, Wed Nov 11 2026. No macro, syntax, notation, axiom, sorry.
-/
import Derived.Test.YtgbnmnkgelklbaaDoorRows
import GoSem.ClaimSeven
namespace Go.Proofs.YtgbnmnkgelklbaaDoor
namespace Rows

/-- THE TIED CARD OF 'fourfoldlaw03.AlgebraRamified'. -/
def algebraRamifiedCard : Claim7 := { stood := { row := algebraRamifiedRow, standIns := [], harness := (true, "8dc3ca3aa2abb7da5b21a62fa43bfa022308d04181be9078e2985403290816a1"), looks := false }, kinds := [], alts := [], laidByText := true, laidKinds := [.data, .data, .data], laidTests := true, laidLooks := .later }
def AlgebraRamifiedCardSaid : Prop := Claim7.holds Tryd.pinned (.plain (OpenSpec.ofChange algebraRamifiedSpec)) algebraRamifiedCard

/-- THE TIED CARD OF 'fourfoldlaw03.AlgebraIsomorphisms'. -/
def algebraIsomorphismsCard : Claim7 := { stood := { row := algebraIsomorphismsRow, standIns := [], harness := (true, "8dc3ca3aa2abb7da5b21a62fa43bfa022308d04181be9078e2985403290816a1"), looks := false }, kinds := [], alts := [], laidByText := true, laidKinds := [.data, .data, .data], laidTests := true, laidLooks := .later }
def AlgebraIsomorphismsCardSaid : Prop := Claim7.holds Tryd.pinned (.plain (OpenSpec.ofChange algebraIsomorphismsSpec)) algebraIsomorphismsCard

/-- THE TIED CARD OF 'fourfoldlaw03.AlgebraModulo'. -/
def algebraModuloCard : Claim7 := { stood := { row := algebraModuloRow, standIns := [], harness := (true, "8dc3ca3aa2abb7da5b21a62fa43bfa022308d04181be9078e2985403290816a1"), looks := false }, kinds := [], alts := [], laidByText := true, laidKinds := [.data, .data, .data], laidTests := true, laidLooks := .later }
def AlgebraModuloCardSaid : Prop := Claim7.holds Tryd.pinned (.plain (OpenSpec.ofChange algebraModuloSpec)) algebraModuloCard

/-- THE SECOND FORM's CARD OF 'fourfoldlaw03.AlgebraRamified'. -/
def algebraRamifiedUptoCard : Claim7 := { stood := { row := algebraRamifiedUptoRow, standIns := [], harness := (true, "8dc3ca3aa2abb7da5b21a62fa43bfa022308d04181be9078e2985403290816a1"), looks := false }, kinds := [], alts := [], laidByText := true, laidKinds := [.data, .data, .data], laidTests := true, laidLooks := .later }
def AlgebraRamifiedUptoCardSaid : Prop := Claim7.holds Tryd.pinned (.plain (OpenSpec.upto algebraRamifiedSpec)) algebraRamifiedUptoCard

/-- THE SECOND FORM's CARD OF 'fourfoldlaw03.AlgebraIsomorphisms'. -/
def algebraIsomorphismsUptoCard : Claim7 := { stood := { row := algebraIsomorphismsUptoRow, standIns := [], harness := (true, "8dc3ca3aa2abb7da5b21a62fa43bfa022308d04181be9078e2985403290816a1"), looks := false }, kinds := [], alts := [], laidByText := true, laidKinds := [.data, .data, .data], laidTests := true, laidLooks := .later }
def AlgebraIsomorphismsUptoCardSaid : Prop := Claim7.holds Tryd.pinned (.plain (OpenSpec.upto algebraIsomorphismsSpec)) algebraIsomorphismsUptoCard

/-- THE SECOND FORM's CARD OF 'fourfoldlaw03.AlgebraModulo'. -/
def algebraModuloUptoCard : Claim7 := { stood := { row := algebraModuloUptoRow, standIns := [], harness := (true, "8dc3ca3aa2abb7da5b21a62fa43bfa022308d04181be9078e2985403290816a1"), looks := false }, kinds := [], alts := [], laidByText := true, laidKinds := [.data, .data, .data], laidTests := true, laidLooks := .later }
def AlgebraModuloUptoCardSaid : Prop := Claim7.holds Tryd.pinned (.plain (OpenSpec.upto algebraModuloSpec)) algebraModuloUptoCard
end Rows
end Go.Proofs.YtgbnmnkgelklbaaDoor
