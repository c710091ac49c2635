/- The document's answer: Do, a turn. -/
import Derived.Test.YtdianedehhecoaaDoorRefCommand2
namespace Go.Proofs.YtdianedehhecoaaDoor
open Go.RowKit
set_option linter.unusedVariables false
set_option linter.unusedSimpArgs false

theorem command_any {w : World} {O : Nat → Prop} {b : Nat} {S : RS} {gv uv : Value} (c : RC) (hc : c.ok) (h : RefAt w O b S gv uv) (hI : RInv S) :
    Calls Tryd.prog 37 #[.pointer (some ⟨b, 0, none⟩), .agg #[.int .i64 c.p, .int .i64 c.un, .int .i64 c.wh, .int .i64 c.x, .int .i64 c.y]] w fun e w' => e = .returned (.tuple #[]) ∧ Moved O w b gv (c.on S) w' := by
  obtain ⟨p, un, wh, x, y⟩ := c
  obtain ⟨-, -, u0, u1, -⟩ := hc
  simp only [RC.on] at *
  by_cases hg : un = 0 ∧ wh = 0 ∧ x = 0 ∧ y = 0
  · obtain ⟨rfl, rfl, rfl, rfl⟩ := hg
    have e : commandF S p 0 0 0 0 = { S with units := giveTo S.units p S.units.length } := by simp [commandF]
    rw [e]
    exact command_give p h hI
  · by_cases hno : un - 1 < 0 ∨ (S.units.length : Int) ≤ un - 1
    · have e : commandF S p un wh x y = S := by unfold commandF; rw [if_neg hg, if_pos hno]
      rw [e]
      exact command_none p un wh x y h hI u0 u1 hg hno
    · obtain ⟨k, hk⟩ : ∃ k : Nat, un = (k : Int) + 1 := ⟨(un - 1).toNat, by omega⟩
      subst hk
      exact command_unit k p wh x y h hI (by omega)

end Go.Proofs.YtdianedehhecoaaDoor
