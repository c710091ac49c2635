/- Proved: of every seed, every number of players and every string of bytes Folds answers true, and leaves them as they were: the program's Fold answers the bytes, the hash and the error that the document's own answer gives. Conditions: the tables that it reads hold what the program's text lays there (tied); a string takes at most 2^47 - 4096 bytes (the form's own reach). -/
import Derived.Test.YtdianedehhecoaaDoorFoldsRow
import Derived.Test.YtdianedehhecoaaDoorCards
import Derived.Test.YtdianedehhecoaaDoorTie
import Derived.SevenTiedAt
namespace Go.Proofs.YtdianedehhecoaaDoor
open Go

theorem folds_card : Rows.FoldsCardSaid :=
  Claim7.holds_tied_plain_at .later [] [.data, .data, .data, .data] true Rows.foldsCard.stood.harness false
    folds_row (fun _ h => by cases h) (by kernel_rfl) (fun _ h => by cases h) folds_row_tie rfl ⟨rfl, rfl⟩ (by kernel_rfl) rfl
    (fun f fn hf hfn => by
      obtain rfl : f = 3 := Option.some.inj ((show Tryd.prog.funcNamed "garrison/garrisonlaw.Folds" = some 3 by kernel_rfl).symm.trans hf) |>.symm
      obtain rfl : fn = Tryd.f3 := (Option.some.inj (Tryd.func3.symm.trans hfn)).symm
      exact ⟨by kernel_rfl, fun j t ht => by
        rw [Tryd.params3] at ht
        have hm : t ∈ [3, 3, 9] := by simpa using Array.mem_of_getElem? ht
        have hall : ([3, 3, 9].all fun u => !Tryd.prog.wantsStandIn u) = true := by kernel_rfl
        exact (show Tryd.prog.wantsStandIn t = false by simpa using List.all_eq_true.1 hall t hm)⟩)
    (by kernel_rfl)
#print axioms folds_card
end Go.Proofs.YtdianedehhecoaaDoor
