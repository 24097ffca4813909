/-
  DERIVED. GIVEN WITH THE SEED: THE CARDS: each row of YticjilkcobpcjaaDoorRows.lean that lists a variable, with what it lists TIED to the program's text (the seventh form; the later family's looks); each row that meets fmt, with fmt's text TOLD by the authors' own Lean function (tested against real Go, not proved from fmt's source: count such statements apart). THE CARD IS WHAT COUNTS. Prove the row's statement (the work); the ties are given (YticjilkcobpcjaaDoorTie.lean); close each card by the builder's one call (the guide's Derived/Test/ToyasCard.lean, 'card_holds'). Laid BY PROGRAM, IN A SANDBOX (cutbox-door.mjs). By AI agents, Wed Nov 11 2026. No macro, syntax, notation, axiom, sorry.
-/
import Derived.Test.YticjilkcobpcjaaDoorRows
import GoSem.ClaimSeven
namespace Go.Proofs.YticjilkcobpcjaaDoor
namespace Rows

/-- THE TIED CARD OF 'hearsaylaw4.QuoteScans'. -/
def quoteScansCard : Claim7 := { stood := { row := quoteScansRow, standIns := [], harness := (true, "092fe8d34d9df1be97bc4617bdef90684daafc11baf9ac017afb4a307ec0b033"), looks := true }, kinds := [], alts := [], laidByText := true, laidKinds := [.data, .data, .data, .sentinel, .sentinel], laidTests := true, laidLooks := .later }
def QuoteScansCardSaid : Prop := Claim7.holds Tryd.pinned (.plain (OpenSpec.ofChange quoteScansSpec)) quoteScansCard

/-- THE TIED CARD OF 'hearsaylaw4.QuoteWords'. -/
def quoteWordsCard : Claim7 := { stood := { row := quoteWordsRow, standIns := [], harness := (true, "092fe8d34d9df1be97bc4617bdef90684daafc11baf9ac017afb4a307ec0b033"), looks := true }, kinds := [], alts := [], laidByText := true, laidKinds := [.data, .data, .data, .sentinel, .sentinel], laidTests := true, laidLooks := .later }
def QuoteWordsCardSaid : Prop := Claim7.holds Tryd.pinned (.plain (OpenSpec.ofChange quoteWordsSpec)) quoteWordsCard

/-- THE TIED CARD OF 'hearsaylaw4.QuoteRises'. -/
def quoteRisesCard : Claim7 := { stood := { row := quoteRisesRow, standIns := [], harness := (true, "092fe8d34d9df1be97bc4617bdef90684daafc11baf9ac017afb4a307ec0b033"), looks := true }, kinds := [], alts := [], laidByText := true, laidKinds := [.data, .data, .data, .sentinel, .sentinel], laidTests := true, laidLooks := .later }
def QuoteRisesCardSaid : Prop := Claim7.holds Tryd.pinned (.plain (OpenSpec.ofChange quoteRisesSpec)) quoteRisesCard

/-- THE SECOND FORM's CARD OF 'hearsaylaw4.QuoteScans'. -/
def quoteScansUptoCard : Claim7 := { stood := { row := quoteScansUptoRow, standIns := [], harness := (true, "092fe8d34d9df1be97bc4617bdef90684daafc11baf9ac017afb4a307ec0b033"), looks := true }, kinds := [], alts := [], laidByText := true, laidKinds := [.data, .data, .data, .sentinel, .sentinel], laidTests := true, laidLooks := .later }
def QuoteScansUptoCardSaid : Prop := Claim7.holds Tryd.pinned (.plain (OpenSpec.upto quoteScansSpec)) quoteScansUptoCard

/-- THE SECOND FORM's CARD OF 'hearsaylaw4.QuoteWords'. -/
def quoteWordsUptoCard : Claim7 := { stood := { row := quoteWordsUptoRow, standIns := [], harness := (true, "092fe8d34d9df1be97bc4617bdef90684daafc11baf9ac017afb4a307ec0b033"), looks := true }, kinds := [], alts := [], laidByText := true, laidKinds := [.data, .data, .data, .sentinel, .sentinel], laidTests := true, laidLooks := .later }
def QuoteWordsUptoCardSaid : Prop := Claim7.holds Tryd.pinned (.plain (OpenSpec.upto quoteWordsSpec)) quoteWordsUptoCard

/-- THE SECOND FORM's CARD OF 'hearsaylaw4.QuoteRises'. -/
def quoteRisesUptoCard : Claim7 := { stood := { row := quoteRisesUptoRow, standIns := [], harness := (true, "092fe8d34d9df1be97bc4617bdef90684daafc11baf9ac017afb4a307ec0b033"), looks := true }, kinds := [], alts := [], laidByText := true, laidKinds := [.data, .data, .data, .sentinel, .sentinel], laidTests := true, laidLooks := .later }
def QuoteRisesUptoCardSaid : Prop := Claim7.holds Tryd.pinned (.plain (OpenSpec.upto quoteRisesSpec)) quoteRisesUptoCard
end Rows
end Go.Proofs.YticjilkcobpcjaaDoor
