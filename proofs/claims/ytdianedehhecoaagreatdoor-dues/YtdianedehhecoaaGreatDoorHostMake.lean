/- A host makes its first match: Create. -/
import Derived.Test.YtdianedehhecoaaGreatDoorHostCalls
import Derived.Test.YtdianedehhecoaaGreatDoorMatchNews
namespace Go.Proofs.YtdianedehhecoaaGreatDoor
open Go.RowKit
set_option linter.unusedVariables false
set_option linter.unusedSimpArgs false

def CreateSaid (w : World) (lo hbk rb : Nat) (sd : Int) (P : Nat) (e : Ending) (w' : World) : Prop :=
  e = .returned (.tuple #[.int .i64 0, .int .i64 0]) ∧ HAtM w' w.heap.size hbk rb sd P 0 ∧ Below lo w w' ∧ Keep (fun k => k = hbk ∨ k = rb) w w'
set_option maxHeartbeats 4000000 in
set_option maxRecDepth 20000 in
theorem hcreate_any {w w0 : World} {lo hbk rb : Nat} (sd : Int) (P : Nat) (hh : BlkAt w hbk (hostV 0 rb) 120) (hr : BlkAt w rb (List.replicate 8 (.pointer none)) 125) (hne : hbk ≠ rb)
    (p2 : 2 ≤ P) (p4 : P ≤ 4) (s0 : 0 ≤ sd) (s1 : sd ≤ 999) (hb0 : Below lo w0 w) (hC : ∀ W, Below lo w0 W → Corners W ∧ W.cell? ⟨4, 15, none⟩ = some (.int .u8 4)) (l1 : lo ≤ hbk) (l2 : lo ≤ rb) :
    Calls Tryz.prog 32 #[.pointer (some ⟨hbk, 0, none⟩), .int .i64 sd, .int .i64 P] w (CreateSaid w lo hbk rb sd P) := by
  have hmay : mayB sd P = true := by unfold mayB; rw [decide_eq_true_eq]; omega
  have HM : Hid (∀ W, Calls Tryz.prog 36 #[.int .i64 sd, .int .i64 P] W fun e w' => e = .returned (.bool true) ∧ w' = W) := fun W => by have := MayBegin_any sd P W; rw [hmay] at this; exact this
  have h0 : w.cell? ⟨hbk, 0, none⟩ = some (.int .i64 0) := hh.cell rfl
  have f0 : w.frozen? ⟨hbk, 0, none⟩ = false := hh.free 0
  have h1 : w.cell? ⟨hbk, 1, none⟩ = some (.slice (some ⟨rb, 0, none⟩) 8 8) := hh.cell rfl
  have HN : Hid (Calls Tryz.prog 66 #[.pointer (some ⟨hbk, 0, none⟩), .int .i64 8] w.drew fun e w' => e = .returned (.tuple #[.int .i64 0, .bool true]) ∧ w' = w.drew.setCell ⟨hbk, 0, none⟩ (.int .i64 (0 + 1))) := next_any hbk 0 0 8 w.drew (by omega) (by omega) (by omega) h0 f0
  have hh1 : BlkAt (w.drew.setCell ⟨hbk, 0, none⟩ (.int .i64 (0 + 1))) hbk (hostV 1 rb) 120 := BlkAt.set (w := w.drew) hh 0 (.int .i64 (0 + 1))
  have hr1 : BlkAt (w.drew.setCell ⟨hbk, 0, none⟩ (.int .i64 (0 + 1))) rb (List.replicate 8 (.pointer none)) 125 := BlkAt.other (w := w.drew) hr (Ne.symm hne)
  have HB1 : Hid (Below lo w (w.drew.setCell ⟨hbk, 0, none⟩ (.int .i64 (0 + 1)))) := ((Below.refl _ _).drew).setCell l1 _
  have hlo : lo ≤ (w.drew.setCell ⟨hbk, 0, none⟩ (.int .i64 (0 + 1))).heap.size := by have := hh1.lt; omega
  have HK1 : Hid (Keep (fun k => k = hbk ∨ k = rb) w (w.drew.setCell ⟨hbk, 0, none⟩ (.int .i64 (0 + 1)))) := ((Keep.refl _ w).drew).set (.inl (.inl rfl))
  have HZ1 : Hid (w.heap.size ≤ (w.drew.setCell ⟨hbk, 0, none⟩ (.int .i64 (0 + 1))).heap.size) := HK1.out.size
  generalize hw1 : w.drew.setCell ⟨hbk, 0, none⟩ (.int .i64 (0 + 1)) = w1 at *
  clear hw1
  have k1 : w1.cell? ⟨hbk, 1, none⟩ = some (.slice (some ⟨rb, 0, none⟩) 8 8) := hh1.cell rfl
  have hbl := hh1.lt
  have hrl := hr1.lt
  have HP : Hid (∀ W, Below w1.heap.size w1 W → Calls Tryz.prog 68 #[.int .i64 sd, .int .i64 P] W fun e w' => ∃ mb, e = .returned (.pointer (some ⟨mb, 0, none⟩)) ∧ (w'.cell? ⟨hbk, 1, none⟩ = some (.slice (some ⟨rb, 0, none⟩) 8 8)) ∧ Hid ((∃ sb hb cap tb gv uv bs g, MParts w' 0 w1.heap.size mb sd P sb hb cap tb gv uv bs g []) ∧ Below w1.heap.size w1 w')) := fun W hW => by
    have hW0 : Below lo w0 W := (hb0.trans (HB1.out.trans (hW.mono hlo)))
    refine (pnew_any sd P W p2 p4 s0 s1 (hC W hW0).1 (hC W hW0).2).mono ?_
    rintro e w' ⟨mb, sb, hb, cap, tb, gv, uv, bs, g, he, hM, hb'⟩
    have hb1 := hW.trans (hb'.mono hW.size)
    exact ⟨mb, he, (hb1.cell hbl).trans k1, ⟨sb, hb, cap, tb, gv, uv, bs, g, hM.lower hW.size⟩, hb1⟩
  have HS : Hid (∀ mb W, Hid ((∃ sb hb cap tb gv uv bs g, MParts W 0 w1.heap.size mb sd P sb hb cap tb gv uv bs g []) ∧ Below w1.heap.size w1 W) → Calls Tryz.prog 67 #[.pointer (some ⟨rb, 0, none⟩), .pointer (some ⟨mb, 0, none⟩)] W fun e w' => e = .returned (.tuple #[]) ∧ w' = W.setCell ⟨rb, 0, none⟩ (.pointer (some ⟨mb, 0, none⟩))) := fun mb W hq => by
    obtain ⟨⟨sb, hb, cap, tb, gv, uv, bs, g, hM⟩, hb2⟩ := hq.out
    have hr2 : BlkAt W rb (List.replicate 8 (.pointer none)) 125 := hr1.same (hb2.block _ hrl)
    exact pstore_any rb 0 mb _ (.pointer none) W (hr2.cell rfl) (hr2.free 0) hM.cells rfl
  have HH := (show Hid _ from hh1)
  have HR := (show Hid _ from hr1)
  clear hh hr hh1 hr1 hC hb0 h0 f0 hmay
  go_enter Tryz.func32, Tryz.ntmps32
  go_wp2_with (go_at_call 36; refine Calls.mono (HM.out _) ?_; rintro e w' ⟨rfl, rfl⟩)
  go_region_with (go_at_call 66; refine Calls.mono HN.out ?_; rintro e w' ⟨rfl, rfl⟩)
  go_wp2_with fail
  go_region_with (first
    | (go_at_call 68; refine Calls.mono (HP.out _ ((Below.refl _ _).drew)) ?_; rintro e w2 ⟨mb, rfl, kc1, hq⟩)
    | (go_at_call 67; refine Calls.mono (HS.out mb w2 hq) ?_; rintro e w3 ⟨rfl, hw3⟩))
  all_goals
    obtain ⟨⟨sb, hb, cap, tb, gv, uv, bs, g, hM⟩, hb2⟩ := hq.out
    go_wp2
    go_ret2
    subst hw3
    have g1 := BlkAt.same (w := _) HH.out (hb2.block _ hbl)
    have g2 := BlkAt.same (w := _) HR.out (hb2.block _ hrl)
    exact ⟨rfl, ⟨_, mb, sb, hb, cap, tb, gv, uv, bs, g, [], rfl, HZ1.out, hbl, hrl, by simpa using hb2.size, hM.on (fun k hk _ => Below.heap_setCell w2 ⟨rb, 0, none⟩ _ k (by show k ≠ rb; omega)), ⟨BlkAt.other g1 hne, BlkAt.set g2 0 _⟩⟩, (HB1.out.trans (hb2.mono hlo)).setCell (p := ⟨rb, 0, none⟩) l2 _, (HK1.out.trans (Keep.ofBelow hb2) (fun j hj => .inr (Nat.le_trans HZ1.out hj))).set (.inl (.inr rfl))⟩
end Go.Proofs.YtdianedehhecoaaGreatDoor
