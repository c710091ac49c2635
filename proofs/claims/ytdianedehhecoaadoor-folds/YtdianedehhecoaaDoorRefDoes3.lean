/- The document's answer: does, Dig. -/
import Derived.Test.YtdianedehhecoaaDoorRefReads
namespace Go.Proofs.YtdianedehhecoaaDoor
open Go.RowKit
set_option linter.unusedVariables false
set_option linter.unusedSimpArgs false

theorem gold_cells {w : World} {O : Nat → Prop} {b : Nat} {S : RS} {gv uv : Value} (h : RefAt w O b S gv uv) (h0 : 0 < S.gold.length) :
    ∃ g cap, gv = .slice (some ⟨g, 0, none⟩) S.gold.length cap ∧ gv.ownBlock = some g ∧ (∀ i, w.frozen? ⟨g, i, none⟩ = false) ∧
      ∀ k, k < S.gold.length → w.cell? ⟨g, k, none⟩ = some (.int .i64 (S.gold.getD k 0)) := by
  obtain ⟨g, cap, he, ho, -, -, hc, hf⟩ := h.gold.form h0
  refine ⟨g, cap, he, ho, hf, fun k hk => hc _ _ ?_⟩
  simp [iCells, List.getD, List.getElem?_eq_getElem hk]

set_option maxHeartbeats 2000000 in
set_option maxRecDepth 100000 in
theorem does_3 {w : World} {O : Nat → Prop} {b k : Nat} {S : RS} {gv uv : Value} (x y on : Int) (h : RefAt w O b S gv uv) (hI : RInv S) (hk : k < S.units.length) (hx0 : 0 ≤ x) (hx7 : x ≤ 7) (hy0 : 0 ≤ y) (hy7 : y ≤ 7) :
    Calls Tryd.prog 61 #[.pointer (some ⟨b, 0, none⟩), .int .i64 k, .int .i64 3, .int .i64 x, .int .i64 y, .int .i64 on] w fun e w' => e = .returned (.bool (doesF S k 3 x y on).2) ∧ Moved O w b gv (doesF S k 3 x y on).1 w' := by
  have hn := hI.bounds.1
  obtain ⟨g, cap, hv, hob, hfr, hc⟩ := unit_cells h hI.u0
  subst hv
  have hu := h.cUnits
  obtain ⟨c0, c1, c2, c3, c4, c5⟩ := hc k hk
  have hgs := getD_some S.units k hk
  have hgl := h.units.lt hob
  have hbl := h.lt
  have hne := (h.ou g hob).2.1
  have Hh : Hid (RefAt w O b S gv _) := h
  have Hgs : Hid (S.units[k]? = some (S.units.getD k ru0)) := hgs
  obtain ⟨gg, gcap, hgv, gob, gfr, gc⟩ := gold_cells h (by have := hI.g2; omega)
  subst hgv
  have hgold := h.cGold
  obtain ⟨k1, k3, o0, o4, -, -, -, -, -, -⟩ := hI.us k hk
  obtain ⟨z, hz⟩ : ∃ z : Nat, 8 * y + x = z := ⟨(8 * y + x).toNat, by omega⟩
  have hz64 : z < 64 := by omega
  have hore := h.cOre hz64
  have ofr := h.st.free (2 + z)
  have ob1 := hI.bounds.2.2 z
  have ob2 := hI.opos z
  obtain ⟨a, ha⟩ := Int.eq_ofNat_of_zero_le o0
  have hal : a < S.gold.length := by omega
  have gc1 := gc a hal
  have gb1 := hI.bounds.2.1 a
  have gb2 := hI.gpos a
  have gf := gfr a
  have g4 := hI.g4
  have Hdo : Hid (doesF S k 3 x y on = if (S.units.getD k ru0).kind ≠ 2 ∨ S.ore.getD z 0 < 1 then (S, false)
    else ({ S with ore := S.ore.set z (S.ore.getD z 0 - 1), gold := S.gold.set a (S.gold.getD a 0 + 1) }, true)) := by
    have e1 : (8 * y + x).toNat = z := by omega
    simp only [doesF, Hid, e1, ha]
    simp
  clear hc h hgs hfr gc gfr
  have HZ : Hid (8 * y + x = z) := hz
  have HA : Hid ((S.units.getD k ru0).own = (a : Int)) := ha
  rw [ha] at c0
  generalize S.units.getD k ru0 = u at *
  generalize hore0 : S.ore.getD z 0 = oz at *
  generalize hgold0 : S.gold.getD a 0 = ga at *
  clear hore0 hgold0
  by_cases hk2 : u.kind = 2
  · have hbk : (u.kind != 2) = false := by simp [hk2]
    by_cases ho : oz < 1
    · have hd : doesF S k 3 x y on = (S, false) := by rw [Hdo.out, if_pos (.inr ho)]
      rw [hd]
      clear hd hk2
      go_enter Tryd.func61, Tryd.ntmps61
      go_wp2
      go_ret
      exact ⟨rfl, Moved.mk (Hh.out.alloc _) ((Keep.refl _ _).alloc _)⟩
    · have hd : doesF S k 3 x y on = ({ S with ore := S.ore.set z (oz - 1), gold := S.gold.set a (ga + 1) }, true) := by rw [Hdo.out, if_neg (by rintro (e | e); exact e hk2; exact ho e)]
      rw [hd]
      clear hd hk2
      have gO := (Hh.out.og gg gob).1
      have bO := Hh.out.ob
      have gne := (Hh.out.og gg gob).2
      have ggl := Hh.out.gold.lt gob
      go_enter Tryd.func61, Tryd.ntmps61
      go_wp2
      go_region
      go_wp2
      go_region
      go_wp2
      go_ret
      exact ⟨rfl, Moved.mk (((Hh.out.setOre z hz64 _).setGold gob a _).alloc _).drew.drew ((((Keep.refl _ _).set (.inl bO)).set (.inl gO)).alloc _).drew.drew⟩
  · have hbk : (u.kind != 2) = true := by simp [hk2]
    have hd : doesF S k 3 x y on = (S, false) := by rw [Hdo.out, if_pos (.inl hk2)]
    rw [hd]
    clear hd hk2
    go_enter Tryd.func61, Tryd.ntmps61
    go_wp2
    go_ret
    exact ⟨rfl, Moved.mk (Hh.out.alloc _) ((Keep.refl _ _).alloc _)⟩
end Go.Proofs.YtdianedehhecoaaDoor
