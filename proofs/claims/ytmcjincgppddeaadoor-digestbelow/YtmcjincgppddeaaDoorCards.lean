/-
  DERIVED. GIVEN WITH THE SEED: THE CARDS: each row of YtmcjincgppddeaaDoorRows.lean that lists a variable, with what it lists TIED to the program's text (the seventh form; the later family's looks); each row that meets fmt, with fmt's text TOLD by the authors' own Lean function (tested against real Go, not proved from fmt's source: count such statements apart). THE CARD IS WHAT COUNTS. Prove the row's statement (the work); the ties are given (YtmcjincgppddeaaDoorTie.lean); close each card by the builder's one call (the guide's Derived/Test/ToyasCard.lean, 'card_holds'). Laid BY PROGRAM, IN A SANDBOX (cutbox-door.mjs). By AI agents, Wed Nov 11 2026. No macro, syntax, notation, axiom, sorry.
-/
import Derived.Test.YtmcjincgppddeaaDoorRows
import GoSem.ClaimSeven
namespace Go.Proofs.YtmcjincgppddeaaDoor
namespace Rows

/-- THE TIED CARD OF 'conclavelaw05.DigestHashes'. -/
def digestHashesCard : Claim7 := { stood := { row := digestHashesRow, standIns := [], harness := (true, "0079ab415ba12771d29ebbd2b5e2faf9a24699b05b233eea42cb6bcf3877616a"), looks := false }, kinds := [], alts := [], laidByText := true, laidKinds := [.data, .data, .data], laidTests := true, laidLooks := .later }
def DigestHashesCardSaid : Prop := Claim7.holds Tryd.pinned (.plain (OpenSpec.ofChange digestHashesSpec)) digestHashesCard

/-- THE TIED CARD OF 'conclavelaw05.DigestTells'. -/
def digestTellsCard : Claim7 := { stood := { row := digestTellsRow, standIns := [], harness := (true, "0079ab415ba12771d29ebbd2b5e2faf9a24699b05b233eea42cb6bcf3877616a"), looks := false }, kinds := [], alts := [], laidByText := true, laidKinds := [.data, .data, .data], laidTests := true, laidLooks := .later }
def DigestTellsCardSaid : Prop := Claim7.holds Tryd.pinned (.plain (OpenSpec.ofChange digestTellsSpec)) digestTellsCard

/-- THE TIED CARD OF 'conclavelaw05.DigestBelow'. -/
def digestBelowCard : Claim7 := { stood := { row := digestBelowRow, standIns := [], harness := (true, "0079ab415ba12771d29ebbd2b5e2faf9a24699b05b233eea42cb6bcf3877616a"), looks := false }, kinds := [], alts := [], laidByText := true, laidKinds := [.data, .data, .data], laidTests := true, laidLooks := .later }
def DigestBelowCardSaid : Prop := Claim7.holds Tryd.pinned (.plain (OpenSpec.ofChange digestBelowSpec)) digestBelowCard

/-- THE TIED CARD OF 'conclavelaw05.DigestNumbers'. -/
def digestNumbersCard : Claim7 := { stood := { row := digestNumbersRow, standIns := [], harness := (true, "0079ab415ba12771d29ebbd2b5e2faf9a24699b05b233eea42cb6bcf3877616a"), looks := false }, kinds := [], alts := [], laidByText := true, laidKinds := [.data, .data, .data], laidTests := true, laidLooks := .later }
def DigestNumbersCardSaid : Prop := Claim7.holds Tryd.pinned (.plain (OpenSpec.ofChange digestNumbersSpec)) digestNumbersCard

/-- THE TIED CARD OF 'conclavelaw05.DigestChange'. -/
def digestChangeCard : Claim7 := { stood := { row := digestChangeRow, standIns := [], harness := (true, "0079ab415ba12771d29ebbd2b5e2faf9a24699b05b233eea42cb6bcf3877616a"), looks := false }, kinds := [], alts := [], laidByText := true, laidKinds := [.data, .data, .data], laidTests := true, laidLooks := .later }
def DigestChangeCardSaid : Prop := Claim7.holds Tryd.pinned (.plain (OpenSpec.ofChange digestChangeSpec)) digestChangeCard

/-- THE TIED CARD OF 'conclavelaw05.DigestAlone'. -/
def digestAloneCard : Claim7 := { stood := { row := digestAloneRow, standIns := [], harness := (true, "0079ab415ba12771d29ebbd2b5e2faf9a24699b05b233eea42cb6bcf3877616a"), looks := false }, kinds := [], alts := [], laidByText := true, laidKinds := [.data, .data, .data], laidTests := true, laidLooks := .later }
def DigestAloneCardSaid : Prop := Claim7.holds Tryd.pinned (.plain (OpenSpec.ofChange digestAloneSpec)) digestAloneCard

/-- THE SECOND FORM's CARD OF 'conclavelaw05.DigestHashes'. -/
def digestHashesUptoCard : Claim7 := { stood := { row := digestHashesUptoRow, standIns := [], harness := (true, "0079ab415ba12771d29ebbd2b5e2faf9a24699b05b233eea42cb6bcf3877616a"), looks := false }, kinds := [], alts := [], laidByText := true, laidKinds := [.data, .data, .data], laidTests := true, laidLooks := .later }
def DigestHashesUptoCardSaid : Prop := Claim7.holds Tryd.pinned (.plain (OpenSpec.upto digestHashesSpec)) digestHashesUptoCard

/-- THE SECOND FORM's CARD OF 'conclavelaw05.DigestTells'. -/
def digestTellsUptoCard : Claim7 := { stood := { row := digestTellsUptoRow, standIns := [], harness := (true, "0079ab415ba12771d29ebbd2b5e2faf9a24699b05b233eea42cb6bcf3877616a"), looks := false }, kinds := [], alts := [], laidByText := true, laidKinds := [.data, .data, .data], laidTests := true, laidLooks := .later }
def DigestTellsUptoCardSaid : Prop := Claim7.holds Tryd.pinned (.plain (OpenSpec.upto digestTellsSpec)) digestTellsUptoCard

/-- THE SECOND FORM's CARD OF 'conclavelaw05.DigestBelow'. -/
def digestBelowUptoCard : Claim7 := { stood := { row := digestBelowUptoRow, standIns := [], harness := (true, "0079ab415ba12771d29ebbd2b5e2faf9a24699b05b233eea42cb6bcf3877616a"), looks := false }, kinds := [], alts := [], laidByText := true, laidKinds := [.data, .data, .data], laidTests := true, laidLooks := .later }
def DigestBelowUptoCardSaid : Prop := Claim7.holds Tryd.pinned (.plain (OpenSpec.upto digestBelowSpec)) digestBelowUptoCard

/-- THE SECOND FORM's CARD OF 'conclavelaw05.DigestNumbers'. -/
def digestNumbersUptoCard : Claim7 := { stood := { row := digestNumbersUptoRow, standIns := [], harness := (true, "0079ab415ba12771d29ebbd2b5e2faf9a24699b05b233eea42cb6bcf3877616a"), looks := false }, kinds := [], alts := [], laidByText := true, laidKinds := [.data, .data, .data], laidTests := true, laidLooks := .later }
def DigestNumbersUptoCardSaid : Prop := Claim7.holds Tryd.pinned (.plain (OpenSpec.upto digestNumbersSpec)) digestNumbersUptoCard

/-- THE SECOND FORM's CARD OF 'conclavelaw05.DigestChange'. -/
def digestChangeUptoCard : Claim7 := { stood := { row := digestChangeUptoRow, standIns := [], harness := (true, "0079ab415ba12771d29ebbd2b5e2faf9a24699b05b233eea42cb6bcf3877616a"), looks := false }, kinds := [], alts := [], laidByText := true, laidKinds := [.data, .data, .data], laidTests := true, laidLooks := .later }
def DigestChangeUptoCardSaid : Prop := Claim7.holds Tryd.pinned (.plain (OpenSpec.upto digestChangeSpec)) digestChangeUptoCard

/-- THE SECOND FORM's CARD OF 'conclavelaw05.DigestAlone'. -/
def digestAloneUptoCard : Claim7 := { stood := { row := digestAloneUptoRow, standIns := [], harness := (true, "0079ab415ba12771d29ebbd2b5e2faf9a24699b05b233eea42cb6bcf3877616a"), looks := false }, kinds := [], alts := [], laidByText := true, laidKinds := [.data, .data, .data], laidTests := true, laidLooks := .later }
def DigestAloneUptoCardSaid : Prop := Claim7.holds Tryd.pinned (.plain (OpenSpec.upto digestAloneSpec)) digestAloneUptoCard
end Rows
end Go.Proofs.YtmcjincgppddeaaDoor
