/- The program's place, of a soldier. -/
import Derived.Test.YtdianedehhecoaaGreatDoorProgPlaces
namespace Go.Proofs.YtdianedehhecoaaGreatDoor
open Go.RowKit
set_option linter.unusedVariables false
set_option linter.unusedSimpArgs false

set_option maxHeartbeats 4000000 in
set_option maxRecDepth 100000 in
theorem placeSoldier_any {w : World} {O : Nat → Prop} {b : Nat} {S : PS} {gv uv : Value} {bs : List Nat} (p x y : Int) (h : PAt w O b S gv uv bs) (hn : S.units.length ≤ 1000) (l0 : 0 ≤ S.last) (l1 : S.last ≤ 100000) :
    Calls Pz.prog 76 #[.pointer (some ⟨b, 0, none⟩), .int .i64 p, .agg #[.int .i64 x, .int .i64 y], .func (.func 262) #[] #[]] w fun e w' => e = .returned (.tuple #[]) ∧ Placed O w b S gv bs ⟨S.last + 1, p, 3, x, y, 8, true⟩ w' := by
  obtain ⟨iu, hiu, hiv⟩ := Option.map_eq_some_iff.1 infoPUnit
  obtain ⟨iz, is1, ib⟩ : iu.zero = some .nilIface ∧ iu.size = 1 ∧ iu.bytes = 16 := by simpa using hiv
  clear hiv
  have hbl := h.st.lt
  have c1 : w.cell? ⟨b, 1, none⟩ = some (.int .i64 S.last) := h.st.cell rfl
  have f1 := h.st.free 1
  have hsz : (w.setCell ⟨b, 1, none⟩ (.int .i64 (S.last + 1))).heap.size = w.heap.size := by simp [World.setCell]
  have h1 := (h.set_last (S.last + 1)).below ((Below.refl _ _).alloc (Nat.le_refl _) (.cells #[.int .i64 x, .int .i64 y] 157))
  have k1 : Keep O w ((w.setCell ⟨b, 1, none⟩ (.int .i64 (S.last + 1))).alloc (.cells #[.int .i64 x, .int .i64 y] 157)) := ((Keep.refl _ _).set (.inl h.ob)).alloc _
  have bx : ((w.setCell ⟨b, 1, none⟩ (.int .i64 (S.last + 1))).alloc (.cells #[.int .i64 x, .int .i64 y] 157)).cell? ⟨w.heap.size, 0, none⟩ = some (.int .i64 x) := by
    have e := (BlkAt.new (w.setCell ⟨b, 1, none⟩ (.int .i64 (S.last + 1))) [.int .i64 x, .int .i64 y] 157).cell (i := 0) (v := .int .i64 x) rfl
    rw [hsz] at e; exact e
  have by_ : ((w.setCell ⟨b, 1, none⟩ (.int .i64 (S.last + 1))).alloc (.cells #[.int .i64 x, .int .i64 y] 157)).cell? ⟨w.heap.size, 1, none⟩ = some (.int .i64 y) := by
    have e := (BlkAt.new (w.setCell ⟨b, 1, none⟩ (.int .i64 (S.last + 1))) [.int .i64 x, .int .i64 y] 157).cell (i := 1) (v := .int .i64 y) rfl
    rw [hsz] at e; exact e
  have z1 : w.heap.size < ((w.setCell ⟨b, 1, none⟩ (.int .i64 (S.last + 1))).alloc (.cells #[.int .i64 x, .int .i64 y] 157)).heap.size := by simp [World.setCell]
  have H1 := (show Hid _ from h1)
  have K1 := (show Hid _ from k1)
  have Bx := (show Hid _ from bx)
  have By := (show Hid _ from by_)
  have Z1 := (show Hid _ from z1)
  clear h h1 k1 bx by_ z1
  go_enter Pz.func76, Tryz.ntmps76
  go_wp2_with fail
  have h1 := H1.out
  have k1 := K1.out
  have bx := Bx.out
  have by_ := By.out
  have z1 := Z1.out
  clear H1 K1 Bx By Z1
  revert h1 k1 bx by_ z1
  generalize ((w.setCell ⟨b, 1, none⟩ (.int .i64 (S.last + 1))).alloc (.cells #[.int .i64 x, .int .i64 y] 157)) = w1
  intro h1 k1 bx by_ z1
  have c67 := h1.cUnits
  have f67 := h1.st.free 67
  have c1' : w1.cell? ⟨b, 1, none⟩ = some (.int .i64 (S.last + 1)) := h1.st.cell rfl
  have hb1 := h1.st.lt
  have HN : Hid (Calls Pz.prog 262 #[.agg #[.int .i64 (S.last + 1), .int .i64 p, .int .i64 0, .int .i64 x, .int .i64 y, .int .i64 0, .bool true]] w1.drew fun e w2 =>
      e = .returned (.iface 346 (.pointer (some ⟨w1.heap.size + 1, 0, none⟩))) ∧ w2.cell? ⟨b, 67, none⟩ = some uv ∧ (∀ o, (w2.alloc o).cell? ⟨b, 67, none⟩ = some uv) ∧ Hid (RowAt w2 165 1 uv S.units.length (uVals S.units bs) ∧ Below w1.heap.size w1 w2 ∧ w2.heap.size = w1.heap.size + 2 ∧ BlkAt w2 (w1.heap.size + 1) (PU.cells ⟨S.last + 1, p, 3, x, y, 8, true⟩) (strT 3))) := by
    refine (newSoldier_any (S.last + 1) p x y 0 0 true w1.drew).mono ?_
    rintro e w2 ⟨rfl, ⟨q1, q2⟩, q3⟩
    have q4 : Below w1.heap.size w1 w2 := (Below.refl _ _).drew.trans q3
    exact ⟨rfl, (q4.cell (p := ⟨b, 67, none⟩) hb1).trans c67, fun o => ((q4.alloc q4.size o).cell (p := ⟨b, 67, none⟩) hb1).trans c67, h1.units.same (fun k e => q4.block k (h1.units.lt e)), q4, q1, q2⟩
  have H1 := (show Hid _ from h1)
  have K1 := (show Hid _ from k1)
  have Z1 := (show Hid _ from z1)
  clear h1 k1 z1 c1 f1
  generalize hL : S.last + 1 = L at *
  generalize hU : uVals S.units bs = us at *
  generalize hN : S.units.length = n at *
  go_region_law (first
    | (refine step_append_row (v := uv) (n := n) (xs := us) (ad := ⟨w2.heap.size, 0, none⟩) (c := 1) (u := .iface 346 (.pointer (some ⟨w1.heap.size + 1, 0, none⟩))) rfl (.tmp 19) (.tmp 29) 151 rfl 165 iu .nilIface 16 ((Pz.gUnderlying 151).trans Tryz.underlying151) hiu iz is1 ib rfl rfl (hx2.out.1.alloc _) rfl (new_cell w2 _ _) rfl (by omega) (by decide) ?_; intro v' w4 hr4 hg4 hb4; obtain ⟨g4, cap4, rfl, hv4⟩ := hr4.slice4; have hq4 := place_cells H1.out hx2.out.2.1 hg4; have c4 := hq4.1; have f4 := hq4.2; clear hq4; have HR4 := (show Hid _ from hr4); have HG4 := (show Hid _ from hg4); have HB4 := (show Hid _ from hb4); clear hr4 hg4 hb4)
    | (go_simp; go_wp2_with (go_at_call 262; refine Calls.mono HN.out ?_; rintro e w2 ⟨rfl, hc67, hc67a, hx2⟩)))
  all_goals
    go_wp2
    go_end0
    have e2 := hx2.out
    rw [← hL, ← hU, ← hN] at *
    exact ⟨rfl, placed_end (u := ⟨S.last + 1, p, 3, x, y, 8, true⟩) H1.out K1.out Z1.out e2.2.1 e2.2.2.1 e2.2.2.2 (.inr (.inr rfl)) HR4.out HG4.out HB4.out g4 rfl⟩
end Go.Proofs.YtdianedehhecoaaGreatDoor
