/- The document's answer: command, a unit that is there. -/
import Derived.Test.YtdianedehhecoaaDoorRefCommand
namespace Go.Proofs.YtdianedehhecoaaDoor
open Go.RowKit
set_option linter.unusedVariables false
set_option linter.unusedSimpArgs false

theorem Moved.trans' {O : Nat → Prop} {w w1 w2 : World} {b : Nat} {gv : Value} {S1 S2 : RS} (h : Moved O w b gv S1 w1) (h2 : Moved O w1 b gv S2 w2) : Moved O w b gv S2 w2 := by
  obtain ⟨⟨uv, r⟩, k⟩ := h2
  refine ⟨⟨uv, r.grow fun j hj => ?_⟩, h.2.trans k fun j hj => .inl hj⟩
  have := h.2.size
  rcases hj with hj | hj
  · exact .inl hj
  · exact .inr (by omega)

set_option maxHeartbeats 4000000 in
set_option maxRecDepth 100000 in
theorem command_unit {w : World} {O : Nat → Prop} {b : Nat} {S : RS} {gv uv : Value} (k : Nat) (p wh x y : Int) (h : RefAt w O b S gv uv) (hI : RInv S) (hk : k < S.units.length) :
    Calls Tryd.prog 37 #[.pointer (some ⟨b, 0, none⟩), .agg #[.int .i64 p, .int .i64 (k + 1), .int .i64 wh, .int .i64 x, .int .i64 y]] w fun e w' => e = .returned (.tuple #[]) ∧ Moved O w b gv (commandF S p (k + 1) wh x y) w' := by
  have hn := hI.bounds.1
  have hu0 := hI.u0
  obtain ⟨g, cap, hv, hob, hfr, hc⟩ := unit_cells h hI.u0
  subst hv
  have hu := h.cUnits
  have hbl := h.lt
  have hgl := h.units.lt hob
  have hgne := (h.ou g hob).2.1
  have H0 : Hid (RefAt w O b S gv _) := h
  have hq : (((k : Int) + 1) == 0) = false := by simp; omega
  obtain ⟨c0, c1, c2, c3, c4, c5⟩ := hc k hk
  have f5 := hfr (k * 6 + 5)
  obtain ⟨-, -, -, -, x0, x7, y0, y7, -, -⟩ := hI.us k hk
  have Hc : Hid (commandF S p (k + 1) wh x y = if (S.units.getD k ru0).hp ≤ 0 ∨ (S.units.getD k ru0).own ≠ p ∨ (S.units.getD k ru0).busy = true ∨ nearB x y (S.units.getD k ru0).x (S.units.getD k ru0).y = false then S
      else if (doesF S k wh x y (atF S.units x y)).2 then { (doesF S k wh x y (atF S.units x y)).1 with units := (doesF S k wh x y (atF S.units x y)).1.units.set k { (doesF S k wh x y (atF S.units x y)).1.units.getD k ru0 with busy := true } } else (doesF S k wh x y (atF S.units x y)).1) := by
    unfold Hid commandF
    have e1 : ¬ ((k : Int) + 1 = 0 ∧ wh = 0 ∧ x = 0 ∧ y = 0) := by omega
    have e2 : ¬ ((k : Int) + 1 - 1 < 0 ∨ (S.units.length : Int) ≤ (k : Int) + 1 - 1) := by omega
    have e3 : ((k : Int) + 1 - 1).toNat = k := by omega
    rw [if_neg e1, if_neg e2, e3]
  clear h hc hfr
  generalize S.units.getD k ru0 = u at *
  by_cases hno : u.hp ≤ 0 ∨ u.own ≠ p ∨ u.busy = true ∨ nearB x y u.x u.y = false
  · have hd : commandF S p (k + 1) wh x y = S := by rw [Hc.out, if_pos hno]
    rw [hd]
    clear hd Hc
    have Hno : Hid (u.hp ≤ 0 ∨ u.own ≠ p ∨ u.busy = true ∨ nearB x y u.x u.y = false) := hno
    clear hno
    go_enter Tryd.func37, Tryd.ntmps37
    go_wp2_with (go_at_call 59; refine (near_any _ _ _ _ _ x0 (by omega) y0 (by omega)).mono ?_; rintro e w1 ⟨rfl, rfl⟩)
    all_goals first
      | exact bodyPost_ret (results_none rfl _ _ _) rfl ⟨rfl, Moved.mk ((H0.out.alloc _).alloc _) (((Keep.refl _ _).alloc _).alloc _)⟩
      | (exfalso
         go_light
         have hn := Hno.out
         simp at *
         rcases hn with q | q | q | q
         · omega
         · exact q (by assumption)
         · simp_all
         · simp_all)
  · have hd : commandF S p (k + 1) wh x y = _ := Hc.out
    rw [if_neg hno] at hd
    have Hd : Hid (commandF S p (k + 1) wh x y = _) := hd
    clear hd Hc
    have p1 : 0 < u.hp := by omega
    have p2 : (u.own != p) = false := by
      have : u.own = p := Classical.byContradiction fun e => hno (.inr (.inl e))
      simp [this]
    have p3 : u.busy = false := by cases hb : u.busy; rfl; exact absurd (.inr (.inr (.inl hb))) hno
    have p4 : nearB x y u.x u.y = true := by cases hb : nearB x y u.x u.y; exact absurd (.inr (.inr (.inr hb))) hno; rfl
    obtain ⟨rx0, rx7, ry0, ry7⟩ : 0 ≤ x ∧ x ≤ 7 ∧ 0 ≤ y ∧ y ≤ 7 := by unfold nearB at p4; simp at p4; omega
    have P4 : Hid (nearB x y u.x u.y = true) := p4
    clear hno p4
    have hn' : S.units.length ≤ 1000000 := by omega
    have hat := atF_lt S.units x y
    go_enter Tryd.func37, Tryd.ntmps37
    go_wp2_with (go_at_call 59; refine (near_any _ _ _ _ _ x0 (by omega) y0 (by omega)).mono ?_; rintro e w1 ⟨rfl, rfl⟩; rw [P4.out])
    refine (at_any x y ((H0.out.alloc _).alloc _) hu0 hn').mono ?_
    rintro e w2 ⟨rfl, hb2⟩
    have h2 : RefAt w2 O b S gv _ := ((H0.out.alloc _).alloc _).below hb2
    have hk2 : Keep O w w2 := (((Keep.refl O w).alloc _).alloc _).trans (Keep.ofBelow hb2) (fun j hj => .inr (by simp at hj; omega))
    have cb2 : w2.cell? ⟨w.heap.size, 2, none⟩ = some (.int .i64 wh) := by
      rw [hb2.cell (p := ⟨w.heap.size, 2, none⟩) (by simp; omega)]
      go_simp
    have hsz2 : w.heap.size + 2 ≤ w2.heap.size := by have := hb2.size; simp at this; omega
    generalize atF S.units x y = on at *
    have H2 := (show Hid (RefAt w2 O b S gv _) from h2)
    have Hk2 : Hid (Keep O w w2) := hk2
    clear h2 hk2 hb2 H0 hu c0 c1 c2 c3 c4 c5 f5 p1 p2 p3
    go_wp2_with fail
    refine (does_any wh x y on H2.out hI hk rx0 rx7 ry0 ry7 hat).mono ?_
    rintro e w3 ⟨rfl, hm⟩
    have hlen := doesF_len S k wh x y on
    cases hr : (doesF S k wh x y on).2 with
    | false =>
      have HR : Hid ((doesF S k wh x y on).2 = false) := hr
      clear hr
      generalize doesF S k wh x y on = r at *
      go_wp2
      go_end0
      refine ⟨rfl, ?_⟩
      rw [Hd.out, if_neg (by rw [HR.out]; simp)]
      exact (Moved.mk H2.out Hk2.out).trans' hm
    | true =>
      have HR : Hid ((doesF S k wh x y on).2 = true) := hr
      clear hr
      generalize doesF S k wh x y on = r at *
      obtain ⟨⟨uv3, h3⟩, hk3⟩ := hm
      obtain ⟨g3, cap3, hv3, hob3, hfr3, hc3⟩ := unit_cells h3 (by omega)
      subst hv3
      obtain ⟨-, -, -, -, -, d5⟩ := hc3 k (by omega)
      have e5 := hfr3 (k * 6 + 5)
      have hu3 := h3.cUnits
      have hlk : k < r.1.units.length := by omega
      have hl3 : (r.1.units.length : Int) ≤ 1000 := by omega
      have Hgs := (show Hid _ from getD_some r.1.units k hlk)
      have H3 := (show Hid (RefAt w3 _ b r.1 gv _) from h3)
      have Hk3 : Hid (Keep O w2 w3) := hk3
      clear h3 hk3 hc3 hfr3 hI
      generalize r.1.units.getD k ru0 = v at *
      go_wp2
      go_end0
      refine ⟨rfl, ?_⟩
      rw [Hd.out, if_pos HR.out]
      have h4 := H3.out.setBusy hob3 Hgs.out true
      have hO3 := (H3.out.ou g3 hob3).1
      refine (Moved.mk H2.out Hk2.out).trans' ⟨⟨_, h4⟩, Hk3.out.set ?_⟩
      exact hO3

end Go.Proofs.YtdianedehhecoaaDoor
