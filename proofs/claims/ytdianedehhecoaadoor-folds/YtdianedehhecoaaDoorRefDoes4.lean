/- The document's answer: does, Hire and Train. -/
import Derived.Test.YtdianedehhecoaaDoorRefDoes3
namespace Go.Proofs.YtdianedehhecoaaDoor
open Go.RowKit
set_option linter.unusedVariables false
set_option linter.unusedSimpArgs false

set_option maxHeartbeats 2000000 in
set_option maxRecDepth 100000 in
theorem does_45 {w : World} {O : Nat → Prop} {b k : Nat} {S : RS} {gv uv : Value} (wh x y on : Int) (h : RefAt w O b S gv uv) (hI : RInv S) (hk : k < S.units.length) (hwh : wh = 4 ∨ wh = 5) :
    Calls Tryd.prog 61 #[.pointer (some ⟨b, 0, none⟩), .int .i64 k, .int .i64 wh, .int .i64 x, .int .i64 y, .int .i64 on] w fun e w' => e = .returned (.bool (doesF S k wh x y on).2) ∧ Moved O w b gv (doesF S k wh x y on).1 w' := by
  have hn := hI.bounds.1
  obtain ⟨g, cap, hv, hob, hfr, hc⟩ := unit_cells h hI.u0
  subst hv
  have hu := h.cUnits
  obtain ⟨c0, c1, c2, c3, c4, c5⟩ := hc k hk
  have hgs := getD_some S.units k hk
  have hgl := h.units.lt hob
  have hbl := h.lt
  have hne := (h.ou g hob).2.1
  have Hh : Hid (RefAt w O b S gv _) := h
  have Hgs : Hid (S.units[k]? = some (S.units.getD k ru0)) := hgs
  obtain ⟨gg, gcap, hgv, gob, gfr, gc⟩ := gold_cells h (by have := hI.g2; omega)
  subst hgv
  have hgold := h.cGold
  obtain ⟨k1, k3, o0, o4, -, -, -, -, -, -⟩ := hI.us k hk
  obtain ⟨a, ha⟩ := Int.eq_ofNat_of_zero_le o0
  have hal : a < S.gold.length := by omega
  have gc1 := gc a hal
  have gb1 := hI.bounds.2.1 a
  have gb2 := hI.gpos a
  have gf := gfr a
  have g4 := hI.g4
  have hu0 := hI.u0
  have hn' : S.units.length ≤ 1000000 := by omega
  have HT : Hid ((thereF S.units : Int) ≤ 1000000) := by
    have : thereF S.units ≤ S.units.length := List.countP_le_length
    unfold Hid; omega
  have Hdo : Hid (doesF S k wh x y on = if (S.units.getD k ru0).kind ≠ 1 ∨ 0 ≤ on ∨ S.gold.getD a 0 < wh - 2 ∨ 40 ≤ thereF S.units then (S, false)
    else ({ S with gold := S.gold.set a (S.gold.getD a 0 - (wh - 2)), units := S.units ++ [⟨(S.units.getD k ru0).own, wh - 2, x, y, healthOf (wh - 2), true⟩] }, true)) := by
    have e1 : ¬ wh = 1 := by omega
    have e2 : ¬ wh = 2 := by omega
    have e3 : ¬ wh = 3 := by omega
    simp only [doesF, Hid, ha, if_neg e1, if_neg e2, if_neg e3, if_pos hwh, Int.toNat_natCast]
  have h1 : Hid (RefAt w O b S _ _) := h
  clear hc h hgs hfr gc gfr
  have HA : Hid ((S.units.getD k ru0).own = (a : Int)) := ha
  rw [ha] at c0
  generalize S.units.getD k ru0 = u at *
  generalize hgold0 : S.gold.getD a 0 = ga at *
  clear hgold0 ha
  have gO := (h1.out.og gg gob).1
  have gne := (h1.out.og gg gob).2
  have ggl := h1.out.gold.lt gob
  have hT := HT.out
  generalize hTt : thereF S.units = th at *
  have HTt : Hid (thereF S.units = th) := hTt
  clear hTt HT
  by_cases hk1 : u.kind = 1
  · have hbk : (u.kind != 1) = false := by simp [hk1]
    by_cases hon : 0 ≤ on
    · have hd : doesF S k wh x y on = (S, false) := by rw [Hdo.out, if_pos (.inr (.inl hon))]
      rw [hd]
      clear hd hk1
      rcases hwh with rfl | rfl
      all_goals
        go_enter Tryd.func61, Tryd.ntmps61
        go_wp2_with (go_at_call 41; refine (there_any (h1.out.alloc _) hu0 hn').mono ?_; rintro e w1 ⟨rfl, rfl⟩)
        rw [HTt.out]
        go_wp2
        go_quiet (fail)
        go_wp2
        go_ret
        exact ⟨rfl, Moved.mk ((h1.out.alloc _).drewN _) (((Keep.refl _ _).alloc _).drewN _)⟩
    · have hond : decide (0 ≤ on) = false := by simp; omega
      by_cases hcost : ga < wh - 2
      · have hd : doesF S k wh x y on = (S, false) := by rw [Hdo.out, if_pos (.inr (.inr (.inl hcost)))]
        rw [hd]
        clear hd hk1 hon
        have hc4 : ga < wh - 2 := hcost
        clear hcost
        rcases hwh with rfl | rfl
        all_goals simp only [Int.reduceSub] at hc4
        all_goals
          go_enter Tryd.func61, Tryd.ntmps61
          go_wp2_with (go_at_call 41; refine (there_any (h1.out.alloc _) hu0 hn').mono ?_; rintro e w1 ⟨rfl, rfl⟩)
          rw [HTt.out]
          go_wp2
          go_quiet (fail)
          go_wp2
          go_ret
          exact ⟨rfl, Moved.mk ((h1.out.alloc _).drewN _) (((Keep.refl _ _).alloc _).drewN _)⟩
      · by_cases ht : 40 ≤ th
        · have hd : doesF S k wh x y on = (S, false) := by rw [Hdo.out, if_pos (.inr (.inr (.inr ht)))]
          rw [hd]
          clear hd hk1 hon
          have hti : (40 : Int) ≤ th := by omega
          have hcd : decide (ga < wh - 2) = false := by simp; omega
          clear hcost
          rcases hwh with rfl | rfl
          all_goals simp only [Int.reduceSub] at hcd
          all_goals
            go_enter Tryd.func61, Tryd.ntmps61
            go_wp2_with (go_at_call 41; refine (there_any (h1.out.alloc _) hu0 hn').mono ?_; rintro e w1 ⟨rfl, rfl⟩)
            rw [HTt.out]
            go_wp2
            go_quiet (fail)
            go_wp2
            go_ret
            exact ⟨rfl, Moved.mk ((h1.out.alloc _).drewN _) (((Keep.refl _ _).alloc _).drewN _)⟩
        · have hd : doesF S k wh x y on = ({ S with gold := S.gold.set a (ga - (wh - 2)), units := S.units ++ [⟨u.own, wh - 2, x, y, healthOf (wh - 2), true⟩] }, true) := by
            rw [Hdo.out, if_neg (by rintro (e | e | e | e); exact e hk1; exact hon e; exact hcost e; exact ht e)]
          rw [hd]
          clear hd hk1 hon
          have htd : decide ((40 : Int) ≤ th) = false := by simp; omega
          have hcd : decide (ga < wh - 2) = false := by simp; omega
          have hle : wh - 2 ≤ ga := by omega
          clear hcost ht
          rcases hwh with rfl | rfl
          · simp only [Int.reduceSub] at hcd hle
            simp only [Int.reduceSub]
            go_enter Tryd.func61, Tryd.ntmps61
            go_wp2_with (go_at_call 41; refine (there_any (h1.out.alloc _) hu0 hn').mono ?_; rintro e w1 ⟨rfl, rfl⟩)
            rw [HTt.out]
            go_wp2
            go_quiet (fail)
            go_wp2
            go_region
            go_wp2_with fail
            have hw := (((h1.out.alloc (.cells #[.int .i64 a, .int .i64 u.kind, .int .i64 u.x, .int .i64 u.y, .int .i64 u.hp, .bool u.busy] 91)).drewN (nq + 1)).setGold gob a (ga - 2))
            have hkw := ((((Keep.refl O w).alloc (.cells #[.int .i64 a, .int .i64 u.kind, .int .i64 u.x, .int .i64 u.y, .int .i64 u.hp, .bool u.busy] 91)).drewN (nq + 1)).set (b := gg) (i := a) (v := .int .i64 (ga - 2)) (.inl gO))
            have hmv := Moved.mk hw hkw
            have Hmv := (show Hid _ from hmv)
            refine (add_any (a : Int) 2 x y (hw.grow (O' := fun k => O k ∨ w.heap.size ≤ k) (fun _ h => .inl h)) hn' (by omega) (by omega)).mono ?_
            rintro e w2 ⟨rfl, hm⟩
            clear hw hkw hmv hgold hu c0 c1 c2 c3 c4 c5 gc1
            go_wp2
            go_ret
            refine ⟨rfl, ?_⟩
            rw [HA.out]
            exact Moved.trans Hmv.out hm
          · simp only [Int.reduceSub] at hcd hle
            simp only [Int.reduceSub]
            go_enter Tryd.func61, Tryd.ntmps61
            go_wp2_with (go_at_call 41; refine (there_any (h1.out.alloc _) hu0 hn').mono ?_; rintro e w1 ⟨rfl, rfl⟩)
            rw [HTt.out]
            go_wp2
            go_quiet (fail)
            go_wp2
            go_region
            go_wp2_with fail
            have hw := (((h1.out.alloc (.cells #[.int .i64 a, .int .i64 u.kind, .int .i64 u.x, .int .i64 u.y, .int .i64 u.hp, .bool u.busy] 91)).drewN (nq + 1)).setGold gob a (ga - 3))
            have hkw := ((((Keep.refl O w).alloc (.cells #[.int .i64 a, .int .i64 u.kind, .int .i64 u.x, .int .i64 u.y, .int .i64 u.hp, .bool u.busy] 91)).drewN (nq + 1)).set (b := gg) (i := a) (v := .int .i64 (ga - 3)) (.inl gO))
            have hmv := Moved.mk hw hkw
            have Hmv := (show Hid _ from hmv)
            refine (add_any (a : Int) 3 x y (hw.grow (O' := fun k => O k ∨ w.heap.size ≤ k) (fun _ h => .inl h)) hn' (by omega) (by omega)).mono ?_
            rintro e w2 ⟨rfl, hm⟩
            clear hw hkw hmv hgold hu c0 c1 c2 c3 c4 c5 gc1
            go_wp2
            go_ret
            refine ⟨rfl, ?_⟩
            rw [HA.out]
            exact Moved.trans Hmv.out hm
  · have hbk : (u.kind != 1) = true := by simp [hk1]
    have hd : doesF S k wh x y on = (S, false) := by rw [Hdo.out, if_pos (.inl hk1)]
    rw [hd]
    clear hd hk1
    rcases hwh with rfl | rfl
    all_goals
      go_enter Tryd.func61, Tryd.ntmps61
      go_wp2_with (go_at_call 41; refine (there_any (h1.out.alloc _) hu0 hn').mono ?_; rintro e w1 ⟨rfl, rfl⟩)
      rw [HTt.out]
      go_wp2
      go_quiet (fail)
      go_wp2
      go_ret
      exact ⟨rfl, Moved.mk ((h1.out.alloc _).drewN _) (((Keep.refl _ _).alloc _).drewN _)⟩
end Go.Proofs.YtdianedehhecoaaDoor
