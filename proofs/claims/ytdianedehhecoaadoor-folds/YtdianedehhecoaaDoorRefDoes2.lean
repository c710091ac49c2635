/- The document's answer: does, Hit. -/
import Derived.Test.YtdianedehhecoaaDoorRefReads
namespace Go.Proofs.YtdianedehhecoaaDoor
open Go.RowKit
set_option linter.unusedVariables false
set_option linter.unusedSimpArgs false

set_option maxHeartbeats 2000000 in
set_option maxRecDepth 100000 in
theorem does_2none {w : World} {O : Nat → Prop} {b k : Nat} {S : RS} {gv uv : Value} (x y on : Int) (h : RefAt w O b S gv uv) (hI : RInv S) (hk : k < S.units.length) (hon : on < 0) :
    Calls Tryd.prog 61 #[.pointer (some ⟨b, 0, none⟩), .int .i64 k, .int .i64 2, .int .i64 x, .int .i64 y, .int .i64 on] w fun e w' => e = .returned (.bool (doesF S k 2 x y on).2) ∧ Moved O w b gv (doesF S k 2 x y on).1 w' := by
  have hn := hI.bounds.1
  obtain ⟨g, cap, hv, hob, hfr, hc⟩ := unit_cells h hI.u0
  subst hv
  have hu := h.cUnits
  obtain ⟨c0, c1, c2, c3, c4, c5⟩ := hc k hk
  have hgs := getD_some S.units k hk
  have hgl := h.units.lt hob
  have hbl := h.lt
  have hne := (h.ou g hob).2.1
  have Hh : Hid (RefAt w O b S gv _) := h
  have Hgs : Hid (S.units[k]? = some (S.units.getD k ru0)) := hgs
  have hd : doesF S k 2 x y on = (S, false) := by simp [doesF, hon]
  rw [hd]
  clear hc h hgs hfr hd
  generalize S.units.getD k ru0 = u at *
  go_enter Tryd.func61, Tryd.ntmps61
  go_wp2
  go_quiet (fail)
  go_wp2
  go_ret
  exact ⟨rfl, Moved.mk ((Hh.out.alloc _).drewN _) (((Keep.refl _ _).alloc _).drewN _)⟩

set_option maxHeartbeats 2000000 in
set_option maxRecDepth 100000 in
theorem does_2 {w : World} {O : Nat → Prop} {b k : Nat} {S : RS} {gv uv : Value} (x y : Int) (h : RefAt w O b S gv uv) (hI : RInv S) (hk : k < S.units.length) (j : Nat) (hj : j < S.units.length) :
    Calls Tryd.prog 61 #[.pointer (some ⟨b, 0, none⟩), .int .i64 k, .int .i64 2, .int .i64 x, .int .i64 y, .int .i64 j] w fun e w' => e = .returned (.bool (doesF S k 2 x y j).2) ∧ Moved O w b gv (doesF S k 2 x y j).1 w' := by
  have hn := hI.bounds.1
  obtain ⟨g, cap, hv, hob, hfr, hc⟩ := unit_cells h hI.u0
  subst hv
  have hu := h.cUnits
  obtain ⟨c0, c1, c2, c3, c4, c5⟩ := hc k hk
  have hgs := getD_some S.units k hk
  have hgl := h.units.lt hob
  have hbl := h.lt
  have hne := (h.ou g hob).2.1
  have Hh : Hid (RefAt w O b S gv _) := h
  have Hgs : Hid (S.units[k]? = some (S.units.getD k ru0)) := hgs
  have fj := hfr (j * 6 + 4)
  obtain ⟨e0, -, -, -, e4, -⟩ := hc j hj
  have Hgj : Hid (S.units[j]? = some (S.units.getD j ru0)) := getD_some S.units j hj
  have Hdo : Hid (doesF S k 2 x y j = if (S.units.getD j ru0).own = (S.units.getD k ru0).own then (S, false) else ({ S with units := S.units.set j { (S.units.getD j ru0) with hp := (S.units.getD j ru0).hp - hitOf (S.units.getD k ru0).kind } }, true)) := by
    have hjn : ¬ (j : Int) < 0 := by omega
    simp [doesF, Hid, hjn]
  obtain ⟨k1, k3, -, -, -, -, -, -, -, -⟩ := hI.us k hk
  obtain ⟨-, -, -, -, -, -, -, -, hp1, hp2⟩ := hI.us j hj
  clear hc h hgs hfr
  generalize S.units.getD k ru0 = u at *
  generalize S.units.getD j ru0 = v at *
  by_cases hown : v.own = u.own
  · have hd : doesF S k 2 x y j = (S, false) := by rw [Hdo.out, if_pos hown]
    rw [hd]
    have hbe : (v.own == u.own) = true := by simp [hown]
    clear hd hown
    go_enter Tryd.func61, Tryd.ntmps61
    go_wp2
    go_quiet (fail)
    go_wp2
    go_ret
    exact ⟨rfl, Moved.mk ((Hh.out.alloc _).drewN _) (((Keep.refl _ _).alloc _).drewN _)⟩
  · have hd : doesF S k 2 x y j = ({ S with units := S.units.set j { v with hp := v.hp - hitOf u.kind } }, true) := by rw [Hdo.out, if_neg hown]
    rw [hd]
    have hbe : (v.own == u.own) = false := by simp [hown]
    have hkk : u.kind = 1 ∨ u.kind = 2 ∨ u.kind = 3 := by omega
    clear hd hown
    have hO := (Hh.out.ou g hob).1
    obtain ⟨kd, hkd⟩ : ∃ kd, u.kind = kd := ⟨_, rfl⟩
    rw [hkd] at hkk c1 ⊢
    clear hkd k1 k3
    have e1 : hitOf 1 = 2 := rfl
    have e2 : hitOf 2 = 1 := rfl
    have e3 : hitOf 3 = 3 := rfl
    rcases hkk with rfl | rfl | rfl
    all_goals first | rw [e1] | rw [e2] | rw [e3]
    all_goals clear e1 e2 e3
    all_goals
      go_enter Tryd.func61, Tryd.ntmps61
      go_wp2
      go_quiet (fail)
      go_wp2
      go_region
      go_wp2
      go_ret
      exact ⟨rfl, Moved.mk ((((Hh.out.alloc _).drewN _).setHp hob Hgj.out _).alloc _) (((((Keep.refl _ _).alloc _).drewN _).set (.inl hO)).alloc _)⟩
end Go.Proofs.YtdianedehhecoaaDoor
