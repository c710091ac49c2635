/- Look at a match that goes, of which nothing is done yet. -/
import Derived.Test.YtdianedehhecoaaGreatDoorMatchAts
import Derived.Test.YtdianedehhecoaaGreatDoorHostCalls
import Derived.Laws.ResultCell
namespace Go.Proofs.YtdianedehhecoaaGreatDoor
open Go.RowKit Go.MuLone
set_option linter.unusedVariables false
set_option linter.unusedSimpArgs false

/-- a view's cells, nothing in them yet -/
def viewZ : List Value := [.int .i64 0, .bool false, .int .i64 0, .int .i64 0, .int .i64 0, .int .i64 0]
/-- and what is known of them, cell by cell -/
def ViewAt (w : World) (vb : Nat) : Prop :=
  w.cell? ⟨vb, 0, none⟩ = some (.int .i64 0) ∧ w.cell? ⟨vb, 1, none⟩ = some (.bool false) ∧ w.cell? ⟨vb, 2, none⟩ = some (.int .i64 0) ∧ w.cell? ⟨vb, 3, none⟩ = some (.int .i64 0) ∧ w.cell? ⟨vb, 4, none⟩ = some (.int .i64 0) ∧ w.cell? ⟨vb, 5, none⟩ = some (.int .i64 0) ∧
  w.frozen? ⟨vb, 0, none⟩ = false ∧ w.frozen? ⟨vb, 1, none⟩ = false ∧ w.frozen? ⟨vb, 2, none⟩ = false ∧ w.frozen? ⟨vb, 3, none⟩ = false ∧ w.frozen? ⟨vb, 4, none⟩ = false ∧ w.frozen? ⟨vb, 5, none⟩ = false ∧ vb < w.heap.size
theorem BlkAt.view {w : World} {vb : Nat} (h : BlkAt w vb viewZ 46) : ViewAt w vb :=
  ⟨h.cell rfl, h.cell rfl, h.cell rfl, h.cell rfl, h.cell rfl, h.cell rfl, h.free 0, h.free 1, h.free 2, h.free 3, h.free 4, h.free 5, h.lt⟩
/-- a view of a match that goes, so many of its players counted -/
def viewK (k : Nat) : List Value := [.int .i64 2, .bool false, .int .i64 k, .int .i64 0, .int .i64 0, .int .i64 (-1)]
theorem cell_set6 (W : World) (vb mb i : Nat) (a0 a1 a2 a3 a4 a5 : Value) (hne : mb ≠ vb) :
    ((((((W.setCell ⟨vb, 0, none⟩ a0).setCell ⟨vb, 1, none⟩ a1).setCell ⟨vb, 2, none⟩ a2).setCell ⟨vb, 3, none⟩ a3).setCell ⟨vb, 4, none⟩ a4).setCell ⟨vb, 5, none⟩ a5).cell? ⟨mb, i, none⟩ = W.cell? ⟨mb, i, none⟩ := by
  have h : ∀ (U : World) (j : Nat) (v : Value), (U.setCell ⟨vb, j, none⟩ v).cell? ⟨mb, i, none⟩ = U.cell? ⟨mb, i, none⟩ := fun U j v => World.cell?_of_block (w := U) (Below.heap_setCell U ⟨vb, j, none⟩ v mb hne)
  rw [h, h, h, h, h, h]
section
variable {w : World} {lk : Int} {lo mb : Nat} {sd : Int} {P sb hb cap tb : Nat} {gv uv : Value} {bs : List Nat} {g : Nat} {pbs : List Nat}
set_option maxHeartbeats 4000000 in
set_option maxRecDepth 20000 in
theorem mlook_any (h : MParts w 0 lo mb sd P sb hb cap tb gv uv bs g pbs) (p2 : 2 ≤ P) (p4 : P ≤ 4) (hn : pbs.length = P) (hlo : lo ≤ w.heap.size) :
    Calls Tryz.prog 46 #[.pointer (some ⟨mb, 0, none⟩)] w fun e w' => e = .returned (.agg #[.int .i64 2, .bool false, .int .i64 P, .int .i64 0, .int .i64 0, .int .i64 (-1)]) ∧ MParts w' 0 lo mb sd P sb hb cap tb gv uv bs g pbs ∧ Below lo w w' ∧ Keep (fun k => k = mb) w w' := by
  have hmb := h.cells.lt
  have HHl := (show Hid _ from h.locks 1)
  have ha := h.below (w' := w.alloc (.cells #[.int .i64 0, .bool false, .int .i64 0, .int .i64 0, .int .i64 0, .int .i64 0] 46)) ((Below.refl _ _).alloc (Nat.le_refl _) _)
  have h0 : (w.alloc (.cells #[.int .i64 0, .bool false, .int .i64 0, .int .i64 0, .int .i64 0, .int .i64 0] 46)).cell? ⟨mb, 0, none⟩ = some (.int .i32 0) := ha.cells.cell rfl
  have f0 : (w.alloc (.cells #[.int .i64 0, .bool false, .int .i64 0, .int .i64 0, .int .i64 0, .int .i64 0] 46)).frozen? ⟨mb, 0, none⟩ = false := ha.cells.free 0
  have h1 := ha.locks 1
  have HL := (show Hid _ from lock_free muLib ⟨mb, 0, none⟩ _ h0 f0)
  have HB1 : Hid (Below lo w ((w.alloc (.cells #[.int .i64 0, .bool false, .int .i64 0, .int .i64 0, .int .i64 0, .int .i64 0] 46)).setCell ⟨mb, 0, none⟩ (.int .i32 1))) := ((Below.refl _ _).alloc hlo _).setCell h.lm _
  have hrb : BlkAt ((w.alloc (.cells #[.int .i64 0, .bool false, .int .i64 0, .int .i64 0, .int .i64 0, .int .i64 0] 46)).setCell ⟨mb, 0, none⟩ (.int .i32 1)) w.heap.size viewZ 46 := (BlkAt.new w viewZ _).other (by omega)
  have HK1 : Hid (∀ k, k < w.heap.size → ((w.alloc (.cells #[.int .i64 0, .bool false, .int .i64 0, .int .i64 0, .int .i64 0, .int .i64 0] 46)).setCell ⟨mb, 0, none⟩ (.int .i32 1)).heap[k]? = (w.setCell ⟨mb, 0, none⟩ (.int .i32 1)).heap[k]?) := fun k hk => by
    rw [World.setCell_alloc_past _ _ _ _ hmb]
    exact Below.heap_alloc _ _ _ (by simpa using hk)
  clear ha h0 f0
  generalize hw1 : (w.alloc (.cells #[.int .i64 0, .bool false, .int .i64 0, .int .i64 0, .int .i64 0, .int .i64 0] 46)).setCell ⟨mb, 0, none⟩ (.int .i32 1) = w1 at *
  clear hw1
  have HM : Hid (∀ W, Below w1.heap.size w1 W → W.cell? ⟨mb, 2, none⟩ = some (.pointer (some ⟨sb, 0, none⟩)) ∧ W.cell? ⟨mb, 5, none⟩ = some (.bool false) ∧ mb < W.heap.size) := fun W hW => ⟨(hW.cell h1.cells.lt).trans (h1.cells.cell rfl), (hW.cell h1.cells.lt).trans (h1.cells.cell rfl), by have := h1.cells.lt; have := hW.size; omega⟩
  have HP : Hid (∀ W, Below w1.heap.size w1 W → Calls Tryz.prog 91 #[.pointer (some ⟨mb, 0, none⟩)] W fun e w' => e = .returned (.int .i64 2) ∧ (w'.cell? ⟨mb, 2, none⟩ = some (.pointer (some ⟨sb, 0, none⟩)) ∧ w'.cell? ⟨mb, 5, none⟩ = some (.bool false) ∧ mb < w'.heap.size) ∧ Hid (Below W.heap.size W w') ∧ Hid (Below w1.heap.size w1 w')) := fun W hW => (phase_any (h1.below hW) p2 p4 hn).mono fun e w' ⟨he, hb⟩ => ⟨he, HM.out _ (hW.trans (hb.mono hW.size)), hb, hW.trans (hb.mono hW.size)⟩
  have HT : Hid (∀ W, Below w1.heap.size w1 W → Calls Tryz.prog 92 #[.pointer (some ⟨sb, 0, none⟩)] W fun e w' => e = .returned (.int .i64 0) ∧ w' = W) := fun W hW => turn_any (h1.below hW)
  have HW : Hid (∀ W, Below w1.heap.size w1 W → Calls Tryz.prog 93 #[.pointer (some ⟨sb, 0, none⟩)] W fun e w' => e = .returned (.int .i64 (-1)) ∧ (w'.cell? ⟨mb, 2, none⟩ = some (.pointer (some ⟨sb, 0, none⟩)) ∧ w'.cell? ⟨mb, 5, none⟩ = some (.bool false) ∧ mb < w'.heap.size) ∧ Hid (Below W.heap.size W w') ∧ Hid (Below w1.heap.size w1 w')) := fun W hW => (winner_any (h1.below hW) p2 p4).mono fun e w' ⟨he, hb⟩ => ⟨he, HM.out _ (hW.trans (hb.mono hW.size)), hb, hW.trans (hb.mono hW.size)⟩
  have HPv : Hid (∀ W vb, Below w1.heap.size w1 W → BlkAt W vb viewZ 46 → Calls Tryz.prog 91 #[.pointer (some ⟨mb, 0, none⟩)] W fun e w' => e = .returned (.int .i64 2) ∧ (w'.cell? ⟨mb, 2, none⟩ = some (.pointer (some ⟨sb, 0, none⟩)) ∧ w'.cell? ⟨mb, 5, none⟩ = some (.bool false) ∧ mb < w'.heap.size) ∧ Hid (BlkAt w' vb viewZ 46) ∧ ViewAt w' vb ∧ Hid (Below w1.heap.size w1 w')) := fun W vb hW hv => (HP.out W hW).mono fun e w' ⟨he, hf, hb, hb'⟩ => by
    have hv' := hv.same (hb.out.block _ hv.lt)
    exact ⟨he, hf, hv', hv'.view, hb'⟩
  have HWv : Hid (∀ W vb, Below w1.heap.size w1 W → BlkAt W vb viewZ 46 → Calls Tryz.prog 93 #[.pointer (some ⟨sb, 0, none⟩)] W fun e w' => e = .returned (.int .i64 (-1)) ∧ (w'.cell? ⟨mb, 2, none⟩ = some (.pointer (some ⟨sb, 0, none⟩)) ∧ w'.cell? ⟨mb, 5, none⟩ = some (.bool false) ∧ mb < w'.heap.size) ∧ Hid (BlkAt w' vb viewZ 46) ∧ ViewAt w' vb ∧ Hid (Below w1.heap.size w1 w')) := fun W vb hW hv => (HW.out W hW).mono fun e w' ⟨he, hf, hb, hb'⟩ => by
    have hv' := hv.same (hb.out.block _ hv.lt)
    exact ⟨he, hf, hv', hv'.view, hb'⟩
  have HBd : Hid (Below w1.heap.size w1 (w1.alloc (.cells #[.int .i64 0, .bool false, .int .i64 0, .int .i64 0, .int .i64 0, .int .i64 0] 46)).drew) := ((Below.refl _ _).alloc (Nat.le_refl _) _).drew
  have HNd : Hid (BlkAt (w1.alloc (.cells #[.int .i64 0, .bool false, .int .i64 0, .int .i64 0, .int .i64 0, .int .i64 0] 46)).drew w1.heap.size viewZ 46) := BlkAt.new w1 viewZ _
  have HNa : Hid (∀ W : World, BlkAt (W.alloc (.cells #[.int .i64 0, .bool false, .int .i64 0, .int .i64 0, .int .i64 0, .int .i64 0] 46)) W.heap.size viewZ 46) := fun W => BlkAt.new W viewZ _
  have h2 : w1.cell? ⟨mb, 2, none⟩ = some (.pointer (some ⟨sb, 0, none⟩)) := h1.cells.cell rfl
  have h5 : w1.cell? ⟨mb, 5, none⟩ = some (.bool false) := h1.cells.cell rfl
  have hm1 := h1.cells.lt
  have d2 : w1.drew.cell? ⟨mb, 2, none⟩ = some (.pointer (some ⟨sb, 0, none⟩)) := h2
  have d5 : w1.drew.cell? ⟨mb, 5, none⟩ = some (.bool false) := h5
  have dm : mb < w1.drew.heap.size := hm1
  have e2 : (w1.alloc (.cells #[.int .i64 0, .bool false, .int .i64 0, .int .i64 0, .int .i64 0, .int .i64 0] 46)).drew.cell? ⟨mb, 2, none⟩ = some (.pointer (some ⟨sb, 0, none⟩)) := (World.cell?_alloc_past _ _ _ hm1).trans h2
  have e5 : (w1.alloc (.cells #[.int .i64 0, .bool false, .int .i64 0, .int .i64 0, .int .i64 0, .int .i64 0] 46)).drew.cell? ⟨mb, 5, none⟩ = some (.bool false) := (World.cell?_alloc_past _ _ _ hm1).trans h5
  have HH := (show Hid _ from h1)
  have HR := (show Hid _ from hrb)
  clear h1 hrb h
  go_enter_defers Tryz.func46, Tryz.ntmps46
  go_wp2_with (first | (go_at_call 89; refine Calls.mono HL.out ?_; rintro e w' ⟨rfl, rfl⟩))
  go_region_held3 (fun w' => w'.cell? ⟨mb, 2, none⟩ = some (.pointer (some ⟨sb, 0, none⟩)) ∧ w'.cell? ⟨mb, 5, none⟩ = some (.bool false)) (first | (with_reducible assumption) | (refine ⟨?_, ?_⟩ <;> first | (with_reducible assumption) | (rw [World.cell?_alloc_past]; (with_reducible assumption); first | exact mc0 | exact ma0 | exact dm) | (rw [cell_set6 _ _ _ _ _ _ _ _ _ _ (by omega)]; first | (with_reducible assumption) | (rw [World.cell?_alloc_past]; (with_reducible assumption); first | exact mc0 | exact ma0 | exact dm))) | (trace_state; fail)) (first
    | (go_at_call 91; refine Calls.mono (HP.out _ (by with_reducible exact (Below.refl _ _).drew)) ?_; rintro e wa ⟨rfl, ⟨ma2, ma5, ma0⟩, ka0, ka⟩)
    | (go_at_call 91; refine Calls.mono (HPv.out _ _ (by with_reducible exact HBd.out) (by with_reducible exact HNd.out)) ?_; rintro e wa ⟨rfl, ⟨ma2, ma5, ma0⟩, hva, ⟨va0, va1, va2, va3, va4, va5, fa0, fa1, fa2, fa3, fa4, fa5, vla⟩, ka⟩)
    | (go_at_call 92; refine Calls.mono (HT.out _ (by first | (with_reducible exact ka.out) | (with_reducible exact ka.out.alloc ka.out.size _))) ?_; rintro e wb ⟨rfl, hwb⟩; rw [hwb]; clear hwb wb)
    | (go_at_call 93; refine Calls.mono (HWv.out _ _ (by with_reducible exact ka.out) (by with_reducible exact hva.out)) ?_; rintro e wc ⟨rfl, ⟨mc2, mc5, mc0⟩, hvc, ⟨vc0, vc1, vc2, vc3, vc4, vc5, fc0, fc1, fc2, fc3, fc4, fc5, vlc⟩, kc⟩)
    | (go_at_call 93; refine Calls.mono (HWv.out _ wa.heap.size (by with_reducible exact ka.out.alloc ka.out.size _) (by with_reducible exact HNa.out wa)) ?_; rintro e wc ⟨rfl, ⟨mc2, mc5, mc0⟩, hvc, ⟨vc0, vc1, vc2, vc3, vc4, vc5, fc0, fc1, fc2, fc3, fc4, fc5, vlc⟩, kc⟩)
    | (go_at_call 93; refine Calls.mono (HW.out _ (by with_reducible exact ka.out)) ?_; rintro e wc ⟨rfl, ⟨mc2, mc5, mc0⟩, kc0, kc⟩))
  all_goals
    have hks := kc.out.size
    first
    | (have hV : BlkAt (wc.alloc (.cells #[.int .i64 2, .bool false, .int .i64 0, .int .i64 0, .int .i64 0, .int .i64 (-1)] 46)) wc.heap.size (viewK 0) 46 := BlkAt.new wc (viewK 0) _
       have hB : Below w'.heap.size w' (wc.alloc (.cells #[.int .i64 2, .bool false, .int .i64 0, .int .i64 0, .int .i64 0, .int .i64 (-1)] 46)) := kc.out.alloc hks _
       obtain ⟨wd, hwd⟩ : ∃ x, x = (wc.alloc (.cells #[.int .i64 2, .bool false, .int .i64 0, .int .i64 0, .int .i64 0, .int .i64 (-1)] 46)) := ⟨_, rfl⟩
       obtain ⟨vb, hvd⟩ : ∃ x, x = wc.heap.size := ⟨_, rfl⟩
       rw [← hwd] at hV hB ⊢
       rw [← hvd] at hV ⊢
       have hvb : w'.heap.size ≤ vb := Nat.le_trans (show w'.heap.size ≤ wc.heap.size from hks) (Nat.le_of_eq hvd.symm))
    | (have g0 : BlkAt wc wa.heap.size viewZ 46 := (by with_reducible exact hvc.out)
       have hV : BlkAt ((((((wc.setCell ⟨wa.heap.size, 0, none⟩ (.int .i64 2)).setCell ⟨wa.heap.size, 1, none⟩ (.bool false)).setCell ⟨wa.heap.size, 2, none⟩ (.int .i64 0)).setCell ⟨wa.heap.size, 3, none⟩ (.int .i64 0)).setCell ⟨wa.heap.size, 4, none⟩ (.int .i64 0)).setCell ⟨wa.heap.size, 5, none⟩ (.int .i64 (-1))) wa.heap.size (viewK 0) 46 := (((((g0.set 0 _).set 1 _).set 2 _).set 3 _).set 4 _).set 5 _
       have hB : Below w'.heap.size w' ((((((wc.setCell ⟨wa.heap.size, 0, none⟩ (.int .i64 2)).setCell ⟨wa.heap.size, 1, none⟩ (.bool false)).setCell ⟨wa.heap.size, 2, none⟩ (.int .i64 0)).setCell ⟨wa.heap.size, 3, none⟩ (.int .i64 0)).setCell ⟨wa.heap.size, 4, none⟩ (.int .i64 0)).setCell ⟨wa.heap.size, 5, none⟩ (.int .i64 (-1))) := ((((((kc.out.setCell ka.out.size _).setCell ka.out.size _).setCell ka.out.size _).setCell ka.out.size _).setCell ka.out.size _).setCell ka.out.size _)
       obtain ⟨wd, hwd⟩ : ∃ x, x = ((((((wc.setCell ⟨wa.heap.size, 0, none⟩ (.int .i64 2)).setCell ⟨wa.heap.size, 1, none⟩ (.bool false)).setCell ⟨wa.heap.size, 2, none⟩ (.int .i64 0)).setCell ⟨wa.heap.size, 3, none⟩ (.int .i64 0)).setCell ⟨wa.heap.size, 4, none⟩ (.int .i64 0)).setCell ⟨wa.heap.size, 5, none⟩ (.int .i64 (-1))) := ⟨_, rfl⟩
       obtain ⟨vb, hvd⟩ : ∃ x, x = wa.heap.size := ⟨_, rfl⟩
       rw [← hwd] at hV hB ⊢
       rw [← hvd] at hV ⊢
       have hvb : w'.heap.size ≤ vb := Nat.le_trans (show w'.heap.size ≤ wa.heap.size from ka.out.size) (Nat.le_of_eq hvd.symm))
    | (have g0 : BlkAt wc w'.heap.size viewZ 46 := (by with_reducible exact hvc.out)
       have hV : BlkAt ((((((wc.setCell ⟨w'.heap.size, 0, none⟩ (.int .i64 2)).setCell ⟨w'.heap.size, 1, none⟩ (.bool false)).setCell ⟨w'.heap.size, 2, none⟩ (.int .i64 0)).setCell ⟨w'.heap.size, 3, none⟩ (.int .i64 0)).setCell ⟨w'.heap.size, 4, none⟩ (.int .i64 0)).setCell ⟨w'.heap.size, 5, none⟩ (.int .i64 (-1))) w'.heap.size (viewK 0) 46 := (((((g0.set 0 _).set 1 _).set 2 _).set 3 _).set 4 _).set 5 _
       have hB : Below w'.heap.size w' ((((((wc.setCell ⟨w'.heap.size, 0, none⟩ (.int .i64 2)).setCell ⟨w'.heap.size, 1, none⟩ (.bool false)).setCell ⟨w'.heap.size, 2, none⟩ (.int .i64 0)).setCell ⟨w'.heap.size, 3, none⟩ (.int .i64 0)).setCell ⟨w'.heap.size, 4, none⟩ (.int .i64 0)).setCell ⟨w'.heap.size, 5, none⟩ (.int .i64 (-1))) := ((((((kc.out.setCell (Nat.le_refl _) _).setCell (Nat.le_refl _) _).setCell (Nat.le_refl _) _).setCell (Nat.le_refl _) _).setCell (Nat.le_refl _) _).setCell (Nat.le_refl _) _)
       obtain ⟨wd, hwd⟩ : ∃ x, x = ((((((wc.setCell ⟨w'.heap.size, 0, none⟩ (.int .i64 2)).setCell ⟨w'.heap.size, 1, none⟩ (.bool false)).setCell ⟨w'.heap.size, 2, none⟩ (.int .i64 0)).setCell ⟨w'.heap.size, 3, none⟩ (.int .i64 0)).setCell ⟨w'.heap.size, 4, none⟩ (.int .i64 0)).setCell ⟨w'.heap.size, 5, none⟩ (.int .i64 (-1))) := ⟨_, rfl⟩
       obtain ⟨vb, hvd⟩ : ∃ x, x = w'.heap.size := ⟨_, rfl⟩
       rw [← hwd] at hV hB ⊢
       rw [← hvd] at hV ⊢
       have hvb : w'.heap.size ≤ vb := Nat.le_trans (show w'.heap.size ≤ w'.heap.size from Nat.le_refl _) (Nat.le_of_eq hvd.symm))
    have HVV := (show Hid _ from hV)
    have HBB := (show Hid _ from hB)
    have h4 : wd.cell? ⟨mb, 4, none⟩ = some (.slice (some ⟨tb, 0, none⟩) P P) := (hB.cell hm1).trans (HH.out.cells.cell rfl)
    have HTH : Hid (∀ (W : World) (i : Nat), Below w'.heap.size w' W → i < P → W.cell? ⟨tb, i, none⟩ = some (.pointer (some ⟨pbs.getD i 0, 0, none⟩)) ∧ W.cell? ⟨pbs.getD i 0, 3, none⟩ = some (.slice none 0 0)) := fun W i hW hi => by
      have hi' : i < pbs.length := by omega
      exact ⟨(hW.cell HH.out.seats.lt).trans (HH.out.there hi'), (hW.cell (HH.out.players i hi').lt).trans ((HH.out.players i hi').cell rfl)⟩
    clear hV hB hwd hvd
    try clear hva
    try clear hvc
    try clear va0 va1 va2 va3 va4 va5 fa0 fa1 fa2 fa3 fa4 fa5 vla
    try clear vc0 vc1 vc2 vc3 vc4 vc5 fc0 fc1 fc2 fc3 fc4 fc5 vlc
    clear ma2 ma5 ma0 mc2 mc5 mc0 d2 d5 dm e2 e5 hks
    go_wp2
    go_loopw [35] (fun i wr => ∃ k : Nat, k ≤ P ∧ i = .int .i64 k ∧ BlkAt wr vb (viewK k) 46 ∧ Below w'.heap.size w' wr) (fun i _ => P - (intOf i).toNat)
    case atStart => exact ⟨0, by omega, rfl, HVV.out, HBB.out⟩
    case round =>
      obtain ⟨k, hk, rfl, hb, hbl⟩ := hrel
      by_cases hlt : k < P
      · obtain ⟨hc1, hc2⟩ := HTH.out _ k hbl hlt
        generalize pbs.getD k 0 = ub at hc1 hc2
        have q2 := hb.cell (i := 2) rfl
        have q4 := hb.cell (i := 4) rfl
        have z2 := hb.free 2
        have z4 := hb.free 4
        have HQ := (show Hid _ from hb)
        have HQB := (show Hid _ from hbl)
        clear hb hbl
        go_wp2
        refine wp_region_noPanic ?_
        go_region
        all_goals
          refine NoPanic.normal ?_
          go_wp2
          go_roundw
          case rel => exact ⟨k + 1, by omega, by go_num, by
            have h0 : BlkAt wr vb (viewK k) 46 := HQ.out
            exact (h0.set 2 (.int .i64 (k + 1))).set 4 (.int .i64 0), ((HQB.out.setCell (p := ⟨vb, 2, none⟩) hvb (.int .i64 (k + 1))).setCell (p := ⟨vb, 4, none⟩) hvb (.int .i64 0)).drew⟩
          case measure => simp [intOf]; omega
      · obtain rfl : k = P := by omega
        have q0 := hb.cell (i := 0) rfl
        have q1 := hb.cell (i := 1) rfl
        have q2 := hb.cell (i := 2) rfl
        have q3 := hb.cell (i := 3) rfl
        have q4 := hb.cell (i := 4) rfl
        have q5 := hb.cell (i := 5) rfl
        have hr0 : BlkAt w' w.heap.size viewZ 46 := HR.out
        have hz := hr0.lt
        have hr : BlkAt wr w.heap.size viewZ 46 := hr0.same (hbl.block _ hz)
        have r0 := hr.cell (i := 0) rfl
        have r1 := hr.cell (i := 1) rfl
        have r2 := hr.cell (i := 2) rfl
        have r3 := hr.cell (i := 3) rfl
        have r4 := hr.cell (i := 4) rfl
        have r5 := hr.cell (i := 5) rfl
        have s0 := hr.free 0
        have s1 := hr.free 1
        have s2 := hr.free 2
        have s3 := hr.free 3
        have s4 := hr.free 4
        have s5 := hr.free 5
        have HRR := (show Hid _ from hr)
        have HQB := (show Hid _ from hbl)
        clear hr hb hbl
        go_wp2
        have hz6 : BlkAt ((((((wr.setCell ⟨w.heap.size, 0, none⟩ (.int .i64 2)).setCell ⟨w.heap.size, 1, none⟩ (.bool false)).setCell ⟨w.heap.size, 2, none⟩ (.int .i64 k)).setCell ⟨w.heap.size, 3, none⟩ (.int .i64 0)).setCell ⟨w.heap.size, 4, none⟩ (.int .i64 0)).setCell ⟨w.heap.size, 5, none⟩ (.int .i64 (-1))) w.heap.size (viewK k) 46 := by
          have h0 : BlkAt wr w.heap.size viewZ 46 := HRR.out
          exact (((((h0.set 0 _).set 1 _).set 2 _).set 3 _).set 4 _).set 5 _
        have hzb : Below lo w ((((((wr.setCell ⟨w.heap.size, 0, none⟩ (.int .i64 2)).setCell ⟨w.heap.size, 1, none⟩ (.bool false)).setCell ⟨w.heap.size, 2, none⟩ (.int .i64 k)).setCell ⟨w.heap.size, 3, none⟩ (.int .i64 0)).setCell ⟨w.heap.size, 4, none⟩ (.int .i64 0)).setCell ⟨w.heap.size, 5, none⟩ (.int .i64 (-1))) :=
          ((((((HB1.out.trans (HQB.out.mono (by omega))).setCell (p := ⟨w.heap.size, 0, none⟩) hlo _).setCell (p := ⟨w.heap.size, 1, none⟩) hlo _).setCell (p := ⟨w.heap.size, 2, none⟩) hlo _).setCell (p := ⟨w.heap.size, 3, none⟩) hlo _).setCell (p := ⟨w.heap.size, 4, none⟩) hlo _).setCell (p := ⟨w.heap.size, 5, none⟩) hlo _
        have hzk : ∀ q, q < w.heap.size → ((((((wr.setCell ⟨w.heap.size, 0, none⟩ (.int .i64 2)).setCell ⟨w.heap.size, 1, none⟩ (.bool false)).setCell ⟨w.heap.size, 2, none⟩ (.int .i64 k)).setCell ⟨w.heap.size, 3, none⟩ (.int .i64 0)).setCell ⟨w.heap.size, 4, none⟩ (.int .i64 0)).setCell ⟨w.heap.size, 5, none⟩ (.int .i64 (-1))).heap[q]? = (w.setCell ⟨mb, 0, none⟩ (.int .i32 1)).heap[q]? := fun q hq => by
          have h : ∀ (U : World) (j : Nat) (v : Value), (U.setCell ⟨w.heap.size, j, none⟩ v).heap[q]? = U.heap[q]? := fun U j v => Below.heap_setCell U ⟨w.heap.size, j, none⟩ v q (by show q ≠ w.heap.size; omega)
          rw [h, h, h, h, h, h]
          exact (HQB.out.block q (by omega)).trans (HK1.out q hq)
        generalize ((((((wr.setCell ⟨w.heap.size, 0, none⟩ (.int .i64 2)).setCell ⟨w.heap.size, 1, none⟩ (.bool false)).setCell ⟨w.heap.size, 2, none⟩ (.int .i64 k)).setCell ⟨w.heap.size, 3, none⟩ (.int .i64 0)).setCell ⟨w.heap.size, 4, none⟩ (.int .i64 0)).setCell ⟨w.heap.size, 5, none⟩ (.int .i64 (-1))) = wz at *
        have h3 : MParts wz 1 lo mb sd k sb hb cap tb gv uv bs g pbs := HHl.out.on fun q _ hq => hzk q (by simpa using hq)
        refine leaves_cons (f := 90) (args := #[.pointer (some ⟨mb, 0, none⟩)]) (by simp) (by simp [go_sem]) ?_
        refine (unlock_deferred muLib ⟨mb, 0, none⟩ .returning _ (h3.cells.cell rfl) (h3.cells.free 0)).mono ?_
        rintro e u' w'' ⟨rfl, rfl, rfl⟩
        have hzf : BlkAt (wz.setCell ⟨mb, 0, none⟩ (.int .i32 0)) w.heap.size (viewK k) 46 := hz6.other (by omega)
        exact ⟨_, results_cell_row rfl _ _ w.heap.size 46 (viewK k).toArray (0, 0) _ rfl hzf Tryz.underlying46 rfl (by kernel_rfl), rfl, h3.locks 0, hzb.setCell (p := ⟨mb, 0, none⟩) h3.lm _, ⟨hzb.os, hzb.tape, hzb.output, by simpa using hzb.size, fun q hq hne => (Below.heap_setCell wz ⟨mb, 0, none⟩ _ q hne).trans ((hzk q hq).trans (Below.heap_setCell w ⟨mb, 0, none⟩ _ q hne))⟩⟩
end
end Go.Proofs.YtdianedehhecoaaGreatDoor

/- Someone watches a match: Match.Watch, Host.Watch. -/
namespace Go.Proofs.YtdianedehhecoaaGreatDoor
open Go.RowKit Go.MuLone
set_option linter.unusedVariables false
set_option linter.unusedSimpArgs false

/-- the two part in the count of draws alone -/
structure Fut1 (w w' : World) : Prop where
  heap : ∀ k : Nat, w'.heap[k]? = w.heap[k]?
  size : w'.heap.size = w.heap.size
  below : ∀ lo, Below lo w w'
theorem fut1_drew (w : World) : Fut1 w w.drew := ⟨fun _ => rfl, rfl, fun _ => (Below.refl _ _).drew⟩
theorem watched_of {w1 : World} {mb lo : Nat} {xs : List Value} {T T1 T2 : TypeId} {v a b : Value} (hm : BlkAt w1 mb xs T) (hlm : lo ≤ mb) (hlo : lo ≤ w1.heap.size) (B C : Obj) :
    BlkAt ((((w1.setCell ⟨mb, 6, none⟩ v).alloc (.cells #[a, b] T1)).alloc B).alloc C).drew mb (xs.set 6 v) T ∧ BlkAt ((((w1.setCell ⟨mb, 6, none⟩ v).alloc (.cells #[a, b] T1)).alloc B).alloc C).drew w1.heap.size [a, b] T1 ∧
      Below lo w1 ((((w1.setCell ⟨mb, 6, none⟩ v).alloc (.cells #[a, b] T1)).alloc B).alloc C).drew := by
  refine ⟨(((hm.set 6 v).alloc (.cells #[a, b] T1)).alloc B).alloc C, ?_, ?_⟩
  · have h := ((BlkAt.new (w1.setCell ⟨mb, 6, none⟩ v) [a, b] T1).alloc B).alloc C
    have e : (w1.setCell ⟨mb, 6, none⟩ v).heap.size = w1.heap.size := by simp
    rw [e] at h
    exact h
  · exact (((((Below.refl _ _).setCell (p := ⟨mb, 6, none⟩) hlm v).alloc (by simpa using hlo) _).alloc (by simp; omega) _).alloc (by simp; omega) _).drew
section
variable {w : World} {hbk rb : Nat} {lo mb : Nat} {sd : Int} {P sb hb cap tb : Nat} {gv uv : Value} {bs : List Nat} {g : Nat} {pbs : List Nat}
set_option maxHeartbeats 4000000 in
set_option maxRecDepth 20000 in
theorem mwatch_any (h : MParts w 0 lo mb sd P sb hb cap tb gv uv bs g pbs) (hlo : lo ≤ w.heap.size) :
    Calls Tryz.prog 95 #[.pointer (some ⟨mb, 0, none⟩)] w fun e w' => e = .returned (.pointer (some ⟨w.heap.size, 0, none⟩)) ∧ w'.cell? ⟨w.heap.size, 0, none⟩ = some (.pointer (some ⟨mb, 0, none⟩)) ∧ Below lo w w' ∧ Keep (fun k => k = mb) w w' := by
  have h0 : w.cell? ⟨mb, 0, none⟩ = some (.int .i32 0) := h.cells.cell rfl
  have f0 : w.frozen? ⟨mb, 0, none⟩ = false := h.cells.free 0
  have h1 := h.locks 1
  have HL := (show Hid _ from lock_free muLib ⟨mb, 0, none⟩ w h0 f0)
  have HH := (show Hid _ from h1)
  have HB1 : Hid (Below lo w (w.setCell ⟨mb, 0, none⟩ (.int .i32 1))) := Below.setCell (Below.refl _ _) h.lm _
  have HK1 : Hid (Keep (fun k => k = mb) w (w.setCell ⟨mb, 0, none⟩ (.int .i32 1))) := (Keep.refl _ w).set (.inl rfl)
  have hs1 : (w.setCell ⟨mb, 0, none⟩ (.int .i32 1)).heap.size = w.heap.size := by simp
  have h6 : (w.setCell ⟨mb, 0, none⟩ (.int .i32 1)).cell? ⟨mb, 6, none⟩ = some (.slice none 0 0) := h1.cells.cell rfl
  have f6 : (w.setCell ⟨mb, 0, none⟩ (.int .i32 1)).frozen? ⟨mb, 6, none⟩ = false := h1.cells.free 6
  have hml := h1.cells.lt
  have hlm := h.lm
  clear h h0 f0 h1
  generalize hw1 : w.setCell ⟨mb, 0, none⟩ (.int .i32 1) = w1 at *
  clear hw1
  rw [← hs1] at hlo ⊢
  clear hs1
  have hml1 : mb < w1.heap.size + 1 := by omega
  have hml2 : mb < w1.heap.size + 1 + 1 := by omega
  go_enter_defers Tryz.func95, Tryz.ntmps95
  go_wp2_with (first | (go_at_call 89; refine Calls.mono HL.out ?_; rintro e w' ⟨rfl, rfl⟩))
  have hm0 : BlkAt w' mb [.int .i32 1, .int .u32 0, .pointer (some ⟨sb, 0, none⟩), .slice (some ⟨hb, 0, none⟩) 1 cap, .slice (some ⟨tb, 0, none⟩) P P, .bool false, .slice none 0 0] 136 := HH.out.cells
  obtain ⟨g1, g2, g3⟩ := watched_of (v := Value.slice (some { block := w'.heap.size + 1 + 1, off := 0 }) 1 ((Question.appendCap 1 0 113).cut (w'.tape w'.drawn (Question.appendCap 1 0 113)))) (a := .pointer (some ⟨mb, 0, none⟩)) (b := .slice none 0 0) (T1 := 187) (T2 := 0) hm0 hlm hlo
    (Obj.cells #[Value.pointer (some { block := w'.heap.size, off := 0 })] 113) (Obj.cells (#[Value.pointer (some { block := w'.heap.size, off := 0 })] ++ Builtin.zeroCells #[Value.pointer none] ((Question.appendCap 1 0 113).cut (w'.tape w'.drawn (Question.appendCap 1 0 113)) - 1)) 113)
  refine leaves_cons (f := 90) (args := #[.pointer (some ⟨mb, 0, none⟩)]) (by simp) (by simp [go_sem]) ?_
  refine (unlock_deferred muLib ⟨mb, 0, none⟩ .returning _ (g1.cell rfl) (g1.free 0)).mono ?_
  rintro e u' w'' ⟨rfl, rfl, rfl⟩
  exact ⟨_, results_tmp rfl _ _ _, rfl, (BlkAt.other g2 (by omega)).cell rfl, HB1.out.trans (g3.setCell (p := ⟨mb, 0, none⟩) hlm _), (((((HK1.out.set (b := mb) (i := 6) (.inl rfl)).alloc _).alloc _).alloc _).drew).set (b := mb) (i := 0) (.inl rfl)⟩
set_option maxHeartbeats 1000000 in
set_option maxRecDepth 20000 in
theorem wstore_any (b o nb : Nat) (x u : Value) (w : World) (hc : w.cell? ⟨b, o, none⟩ = some u) (hz : w.frozen? ⟨b, o, none⟩ = false) (hm : w.cell? ⟨nb, 0, none⟩ = some x) :
    Calls Tryz.prog 94 #[.pointer (some ⟨b, o, none⟩), .pointer (some ⟨nb, 0, none⟩)] w fun e w' => e = .returned (.tuple #[]) ∧ w' = w.setCell ⟨b, o, none⟩ (.pointer (some ⟨nb, 0, none⟩)) := by
  have hst := run_call_storeP (P := Tryz.prog) (w := w) Tryz.func114 (by kernel_rfl) (by kernel_rfl) (by kernel_rfl) (by kernel_rfl) (y := some ⟨nb, 0, none⟩) hc hz
  have hcv := run_convert_to_unsafe (P := Tryz.prog) (src := 113) (dst := 115) (t := 187) (by kernel_rfl) (by kernel_rfl) (by kernel_rfl) hm
  go_enter Tryz.func94, Tryz.ntmps94
  go_wp2
  go_end0
  exact ⟨rfl, rfl⟩
set_option maxHeartbeats 4000000 in
set_option maxRecDepth 20000 in
theorem hwatch_any (hh : HAt w hbk rb mb) (h : MParts w 0 lo mb sd P sb hb cap tb gv uv bs g pbs) (hlo : lo ≤ w.heap.size) (l1 : hbk < lo) :
    Calls Tryz.prog 47 #[.pointer (some ⟨hbk, 0, none⟩), .int .i64 0] w fun e w' => e = .returned (.tuple #[.int .i64 0, .int .i64 0]) ∧ Keep (fun k => k = hbk ∨ k = mb) w w' := by
  have HF := (show Hid _ from find_any hh h.cells rfl)
  have h2 : w.cell? ⟨hbk, 2, none⟩ = some (.int .i64 0) := hh.host.cell rfl
  have f2 : w.frozen? ⟨hbk, 2, none⟩ = false := hh.host.free 2
  have HN := (show Hid _ from next_any hbk 2 0 20 w (by omega) (by omega) (by omega) h2 f2)
  have hne : hbk ≠ mb := by have := h.lm; omega
  have hlm := h.lm
  have hM : MParts (w.setCell ⟨hbk, 2, none⟩ (.int .i64 (0 + 1))) 0 lo mb sd P sb hb cap tb gv uv bs g pbs := h.on fun k hk _ => Below.heap_setCell w ⟨hbk, 2, none⟩ _ k (by show k ≠ hbk; omega)
  have hH : BlkAt (w.setCell ⟨hbk, 2, none⟩ (.int .i64 (0 + 1))) hbk ((hostV 1 rb).set 2 (.int .i64 (0 + 1))) 120 := hh.host.set 2 _
  have HB1 : Hid (Keep (fun k => k = hbk ∨ k = mb) w (w.setCell ⟨hbk, 2, none⟩ (.int .i64 (0 + 1)))) := (Keep.refl _ w).set (.inl (.inl rfl))
  have hlo1 : lo ≤ (w.setCell ⟨hbk, 2, none⟩ (.int .i64 (0 + 1))).heap.size := by simpa using hlo
  generalize hw1 : w.setCell ⟨hbk, 2, none⟩ (.int .i64 (0 + 1)) = w1 at *
  clear hw1
  have hbl := hH.lt
  have c3 : w1.cell? ⟨hbk, 3, none⟩ = some (.pointer none) := hH.cell rfl
  have z3 : w1.frozen? ⟨hbk, 3, none⟩ = false := hH.free 3
  have HW : Hid (∀ W, Fut1 w1 W → Calls Tryz.prog 95 #[.pointer (some ⟨mb, 0, none⟩)] W fun e w' => ∃ nb, e = .returned (.pointer (some ⟨nb, 0, none⟩)) ∧ Hid ((w'.cell? ⟨hbk, 3, none⟩ = some (.pointer none) ∧ w'.frozen? ⟨hbk, 3, none⟩ = false ∧ w'.cell? ⟨nb, 0, none⟩ = some (.pointer (some ⟨mb, 0, none⟩))) ∧ Keep (fun k => k = mb) w1 w')) := fun W hW => by
    have hb0 := hW.below lo
    refine (mwatch_any (hM.on fun k _ _ => hW.heap k) (by rw [hW.size]; exact hlo1)).mono ?_
    rintro e w' ⟨he, hc, hb, hk⟩
    have hb1 := hb0.trans hb
    have hk0 : Keep (fun k => k = mb) w1 W := ⟨hb0.os, hb0.tape, hb0.output, hb0.size, fun k _ _ => hW.heap k⟩
    exact ⟨_, he, ⟨(hb1.cell (p := ⟨hbk, 3, none⟩) l1).trans c3, (hb1.frozen (p := ⟨hbk, 3, none⟩) l1).trans z3, hc⟩, hk0.trans hk (fun j e => .inl e)⟩
  clear hh h h2 f2 hM hH c3 z3
  go_enter Tryz.func47, Tryz.ntmps47
  go_wp2_with (first | (go_at_call 43; refine Calls.mono HF.out ?_; rintro e w' ⟨rfl, rfl⟩) | (go_at_call 66; refine Calls.mono HN.out ?_; rintro e w' ⟨rfl, rfl⟩))
  go_region_with (first
    | (go_at_call 95; refine Calls.mono (HW.out _ (fut1_drew _)) ?_; rintro e w2 ⟨nb, rfl, hq⟩)
    | (go_at_call 94; refine Calls.mono (wstore_any hbk 3 nb _ _ w2 hq.out.1.1 hq.out.1.2.1 hq.out.1.2.2) ?_; rintro e w3 ⟨rfl, rfl⟩))
  all_goals
    go_wp2
    go_ret2
    exact ⟨rfl, (HB1.out.trans hq.out.2 (fun j e => .inl (.inr e))).set (b := hbk) (i := 3) (.inl (.inl rfl))⟩
end
end Go.Proofs.YtdianedehhecoaaGreatDoor

/- Host.Look of a new match; one watcher more of a new play. -/
namespace Go.Proofs.YtdianedehhecoaaGreatDoor
open Go.RowKit
set_option linter.unusedVariables false
set_option linter.unusedSimpArgs false

section
variable {w : World} {lo mb : Nat} {sd : Int} {P sb hb cap tb : Nat} {gv uv : Value} {bs : List Nat} {g : Nat} {pbs : List Nat}
theorem mlook_below (h : MParts w 0 lo mb sd P sb hb cap tb gv uv bs g pbs) (p2 : 2 ≤ P) (p4 : P ≤ 4) (hn : pbs.length = P) (hlo : lo ≤ w.heap.size) :
    Calls Tryz.prog 46 #[.pointer (some ⟨mb, 0, none⟩)] w fun e w' => e = .returned (.agg #[.int .i64 2, .bool false, .int .i64 P, .int .i64 0, .int .i64 0, .int .i64 (-1)]) ∧ Below w.heap.size w w' :=
  (mlook_any h p2 p4 hn hlo).mono fun e w' ⟨he, hM, hb, hk⟩ => ⟨he, hk.os, hk.tape, hk.output, hk.size, fun k hl => by
    by_cases hm : k = mb
    · subst hm; exact (show w'.heap[k]? = _ from hM.cells).trans (show w.heap[k]? = _ from h.cells).symm
    · exact hk.block k hl hm⟩
end
section
variable {w : World} {hbk rb : Nat} {lo mb : Nat} {sd : Int} {P sb hb cap tb : Nat} {gv uv : Value} {bs : List Nat} {g : Nat} {pbs : List Nat}
set_option maxHeartbeats 4000000 in
set_option maxRecDepth 20000 in
theorem hlook_any (hh : HAt w hbk rb mb) (h : MParts w 0 lo mb sd P sb hb cap tb gv uv bs g pbs) (p2 : 2 ≤ P) (p4 : P ≤ 4) (hn : pbs.length = P) (hlo : lo ≤ w.heap.size) :
    Calls Tryz.prog 20 #[.pointer (some ⟨hbk, 0, none⟩), .int .i64 0] w fun e w' => e = .returned (.tuple #[.agg #[.int .i64 2, .bool false, .int .i64 P, .int .i64 0, .int .i64 0, .int .i64 (-1)], .int .i64 0]) ∧ Below w.heap.size w w' := by
  have hB0 : Below w.heap.size w (w.alloc (.cells #[.int .i64 0, .bool false, .int .i64 0, .int .i64 0, .int .i64 0, .int .i64 0] 46)) := (Below.refl _ _).alloc (Nat.le_refl _) _
  have hH1 : HAt (w.alloc (.cells #[.int .i64 0, .bool false, .int .i64 0, .int .i64 0, .int .i64 0, .int .i64 0] 46)) hbk rb mb := hh.on hB0 hh.host.lt hh.rooms.lt
  have hM1 := h.below hB0
  have hR1 := BlkAt.new w viewZ 46
  have hml := h.cells.lt
  have hlo1 : lo ≤ (w.alloc (.cells #[.int .i64 0, .bool false, .int .i64 0, .int .i64 0, .int .i64 0, .int .i64 0] 46)).heap.size := by simp; omega
  have HF := (show Hid _ from find_any hH1 hM1.cells rfl)
  have HL : Hid (Calls Tryz.prog 46 #[.pointer (some ⟨mb, 0, none⟩)] (w.alloc (.cells #[.int .i64 0, .bool false, .int .i64 0, .int .i64 0, .int .i64 0, .int .i64 0] 46)) fun e w' => e = .returned (.agg #[.int .i64 2, .bool false, .int .i64 P, .int .i64 0, .int .i64 0, .int .i64 (-1)]) ∧ ViewAt w' w.heap.size ∧ Hid (BlkAt w' w.heap.size viewZ 46 ∧ Below w.heap.size w w')) := (mlook_below hM1 p2 p4 hn hlo1).mono fun e w' ⟨he, hb⟩ => by
    have hv : BlkAt w' w.heap.size viewZ 46 := hR1.same (hb.block _ (by simp))
    exact ⟨he, hv.view, hv, hB0.trans (hb.mono (by simp))⟩
  have HB0 : Hid (Below lo w (w.alloc (.cells #[.int .i64 0, .bool false, .int .i64 0, .int .i64 0, .int .i64 0, .int .i64 0] 46))) := hB0.mono hlo
  have HR1 : Hid (BlkAt (w.alloc (.cells #[.int .i64 0, .bool false, .int .i64 0, .int .i64 0, .int .i64 0, .int .i64 0] 46)) w.heap.size viewZ 46) := hR1
  have hs1 : w.heap.size < (w.alloc (.cells #[.int .i64 0, .bool false, .int .i64 0, .int .i64 0, .int .i64 0, .int .i64 0] 46)).heap.size := by simp
  clear hh h hB0 hH1 hM1 hR1
  go_enter Tryz.func20, Tryz.ntmps20
  go_wp2_with (first | (go_at_call 43; refine Calls.mono HF.out ?_; rintro e w' ⟨rfl, rfl⟩) | (go_at_call 46; refine Calls.mono HL.out ?_; rintro e w2 ⟨rfl, ⟨v0, v1, v2, v3, v4, v5, f0, f1, f2, f3, f4, f5, vl⟩, hq⟩))
  obtain ⟨g1, g3⟩ := hq.out
  have hz6 : BlkAt ((((((w2.setCell ⟨w.heap.size, 0, none⟩ (.int .i64 2)).setCell ⟨w.heap.size, 1, none⟩ (.bool false)).setCell ⟨w.heap.size, 2, none⟩ (.int .i64 P)).setCell ⟨w.heap.size, 3, none⟩ (.int .i64 0)).setCell ⟨w.heap.size, 4, none⟩ (.int .i64 0)).setCell ⟨w.heap.size, 5, none⟩ (.int .i64 (-1))) w.heap.size (viewK P) 46 := (((((g1.set 0 _).set 1 _).set 2 _).set 3 _).set 4 _).set 5 _
  have hzb := (((((g3.setCell (p := ⟨w.heap.size, 0, none⟩) (Nat.le_refl _) (.int .i64 2)).setCell (p := ⟨w.heap.size, 1, none⟩) (Nat.le_refl _) (.bool false)).setCell (p := ⟨w.heap.size, 2, none⟩) (Nat.le_refl _) (.int .i64 P)).setCell (p := ⟨w.heap.size, 3, none⟩) (Nat.le_refl _) (.int .i64 0)).setCell (p := ⟨w.heap.size, 4, none⟩) (Nat.le_refl _) (.int .i64 0)).setCell (p := ⟨w.heap.size, 5, none⟩) (Nat.le_refl _) (.int .i64 (-1))
  generalize ((((((w2.setCell ⟨w.heap.size, 0, none⟩ (.int .i64 2)).setCell ⟨w.heap.size, 1, none⟩ (.bool false)).setCell ⟨w.heap.size, 2, none⟩ (.int .i64 P)).setCell ⟨w.heap.size, 3, none⟩ (.int .i64 0)).setCell ⟨w.heap.size, 4, none⟩ (.int .i64 0)).setCell ⟨w.heap.size, 5, none⟩ (.int .i64 (-1))) = wz at *
  refine bodyPost_ret (v := .tuple #[.agg #[.int .i64 2, .bool false, .int .i64 P, .int .i64 0, .int .i64 0, .int .i64 (-1)], .int .i64 0]) ?_ rfl ⟨rfl, hzb⟩
  rw [results_cell_tmp (p := 4) (u := 5) (ty := 46) rfl]
  have hl := run_loadVar_row (P := Tryz.prog) wz w.heap.size 46 46 (viewK P).toArray (0, 0) _ hz6 Tryz.underlying46 rfl (by kernel_rfl)
  show (Result.ok (⟨w.heap.size, 0, none⟩ : Addr) wz).andThen _ = _
  rw [Result.andThen_ok, hl]
  rfl
/-- a new play's cells -/
def playV0 (hbk : Nat) (sd : Int) (P : Nat) : List Value := [.pointer (some ⟨hbk, 0, none⟩), .int .i64 0, .int .i64 sd, .int .i64 P, .slice none 0 0, .slice none 0 0, .slice none 0 0, .slice none 0 0, .slice none 0 0, .slice none 0 0, .int .i64 0, .bool false]
set_option maxHeartbeats 4000000 in
set_option maxRecDepth 20000 in
theorem kwatch_any {pb : Nat} (hp : BlkAt w pb (playV0 hbk sd P) 37) (hh : HAt w hbk rb mb) (h : MParts w 0 lo mb sd P sb hb cap tb gv uv bs g pbs) (hlo : lo ≤ w.heap.size) (l1 : hbk < lo) (l2 : pb < lo) (hne : pb ≠ hbk) :
    Calls Tryz.prog 21 #[.pointer (some ⟨pb, 0, none⟩)] w fun e w' => e = .returned (.bool true) ∧ (w'.cell? ⟨pb, 2, none⟩ = some (.int .i64 sd) ∧ w'.cell? ⟨pb, 3, none⟩ = some (.int .i64 P)) ∧ Keep (fun k => k = hbk ∨ k = mb ∨ k = pb) w w' := by
  have c8 : w.cell? ⟨pb, 8, none⟩ = some (.slice none 0 0) := hp.cell rfl
  have c0 : w.cell? ⟨pb, 0, none⟩ = some (.pointer (some ⟨hbk, 0, none⟩)) := hp.cell rfl
  have c1 : w.cell? ⟨pb, 1, none⟩ = some (.int .i64 0) := hp.cell rfl
  have d0 : w.drew.cell? ⟨pb, 0, none⟩ = some (.pointer (some ⟨hbk, 0, none⟩)) := c0
  have d1 : w.drew.cell? ⟨pb, 1, none⟩ = some (.int .i64 0) := c1
  have hnm : pb ≠ mb := by have := h.lm; omega
  have hpl := hp.lt
  have HW : Hid (Calls Tryz.prog 47 #[.pointer (some ⟨hbk, 0, none⟩), .int .i64 0] w.drew fun e w' => e = .returned (.tuple #[.int .i64 0, .int .i64 0]) ∧ (w'.cell? ⟨pb, 0, none⟩ = some (.pointer (some ⟨hbk, 0, none⟩)) ∧ w'.cell? ⟨pb, 1, none⟩ = some (.int .i64 0)) ∧ Hid (BlkAt w' pb (playV0 hbk sd P) 37 ∧ Keep (fun k => k = hbk ∨ k = mb) w w')) := by
    have hm : MParts w.drew 0 lo mb sd P sb hb cap tb gv uv bs g pbs := h.on fun k _ _ => rfl
    have hh' : HAt w.drew hbk rb mb := ⟨hh.host, hh.rooms⟩
    refine (hwatch_any hh' hm hlo l1).mono fun e w' ⟨he, hk⟩ => ?_
    have hk' : Keep (fun k => k = hbk ∨ k = mb) w w' := ⟨hk.os, hk.tape, hk.output, hk.size, hk.block⟩
    have hp' : BlkAt w' pb (playV0 hbk sd P) 37 := hp.same (hk'.block _ hpl (by rintro (e | e) <;> omega))
    exact ⟨he, ⟨hp'.cell rfl, hp'.cell rfl⟩, hp', hk'⟩
  clear hp hh h
  go_enter Tryz.func21, Tryz.ntmps21
  go_wp2_with fail
  go_region_held3 (fun w' => w'.cell? ⟨pb, 0, none⟩ = some (.pointer (some ⟨hbk, 0, none⟩)) ∧ w'.cell? ⟨pb, 1, none⟩ = some (.int .i64 0)) (first | (with_reducible assumption) | (refine ⟨?_, ?_⟩ <;> (with_reducible assumption)) | go_keep) (first | (go_at_call 47; refine Calls.mono HW.out ?_; rintro e w2 ⟨rfl, hqs, hq⟩))
  obtain ⟨hp2, hk2⟩ := hq.out
  have e8 : w2.cell? ⟨pb, 8, none⟩ = some (.slice none 0 0) := hp2.cell rfl
  have z8 : w2.frozen? ⟨pb, 8, none⟩ = false := hp2.free 8
  have e9 : w2.cell? ⟨pb, 9, none⟩ = some (.slice none 0 0) := hp2.cell rfl
  have z9 : w2.frozen? ⟨pb, 9, none⟩ = false := hp2.free 9
  have e10 : w2.cell? ⟨pb, 10, none⟩ = some (.int .i64 0) := hp2.cell rfl
  have hpl2 := hp2.lt
  have hpl3 : pb < w2.heap.size + 1 := by omega
  have HP2 := (show Hid _ from hp2)
  have HK2 := (show Hid _ from hk2)
  clear hp2 hk2 hqs
  go_wp2_with fail
  generalize hcap : (Question.appendCap 1 0 9).cut (w2.tape w2.drawn (Question.appendCap 1 0 9)) = cp
  have hp5 : BlkAt (((w2.setCell ⟨pb, 8, none⟩ (.slice (some ⟨w2.heap.size + 1, 0, none⟩) 1 cp)).alloc (.cells #[.string { data := #[] }] 9)).alloc (.cells (#[.string { data := #[] }] ++ Builtin.zeroCells #[.string { data := #[] }] (cp - 1)) 9)).drew pb ((playV0 hbk sd P).set 8 (.slice (some ⟨w2.heap.size + 1, 0, none⟩) 1 cp)) 37 := by
    have h0 : BlkAt w2 pb (playV0 hbk sd P) 37 := HP2.out
    exact ((h0.set 8 (.slice (some ⟨w2.heap.size + 1, 0, none⟩) 1 cp)).alloc (.cells #[.string { data := #[] }] 9)).alloc (.cells (#[.string { data := #[] }] ++ Builtin.zeroCells #[.string { data := #[] }] (cp - 1)) 9)
  have hk5 : Keep (fun k => k = hbk ∨ k = mb ∨ k = pb) w (((w2.setCell ⟨pb, 8, none⟩ (.slice (some ⟨w2.heap.size + 1, 0, none⟩) 1 cp)).alloc (.cells #[.string { data := #[] }] 9)).alloc (.cells (#[.string { data := #[] }] ++ Builtin.zeroCells #[.string { data := #[] }] (cp - 1)) 9)).drew :=
    ((((HK2.out.mono (O' := fun k => k = hbk ∨ k = mb ∨ k = pb) (fun j e => .inl (e.elim .inl fun x => .inr (.inl x)))).set (b := pb) (i := 8) (.inl (.inr (.inr rfl)))).alloc _).alloc _).drew
  generalize (((w2.setCell ⟨pb, 8, none⟩ (.slice (some ⟨w2.heap.size + 1, 0, none⟩) 1 cp)).alloc (.cells #[.string { data := #[] }] 9)).alloc (.cells (#[.string { data := #[] }] ++ Builtin.zeroCells #[.string { data := #[] }] (cp - 1)) 9)).drew = w5 at *
  have x8 : w5.cell? ⟨pb, 8, none⟩ = some (.slice (some ⟨w2.heap.size + 1, 0, none⟩) 1 cp) := hp5.cell rfl
  have x9 : w5.cell? ⟨pb, 9, none⟩ = some (.slice none 0 0) := hp5.cell rfl
  have y9 : w5.frozen? ⟨pb, 9, none⟩ = false := hp5.free 9
  have x10 : w5.cell? ⟨pb, 10, none⟩ = some (.int .i64 0) := hp5.cell rfl
  have xpl := hp5.lt
  have xpl1 : pb < w5.heap.size + 1 := by omega
  have HP5 : Hid (BlkAt w5 pb ((playV0 hbk sd P).set 8 (.slice (some ⟨w2.heap.size + 1, 0, none⟩) 1 cp)) 37) := hp5
  have HK5 := (show Hid _ from hk5)
  clear hp5 hk5 e8 z8 e9 z9 e10 hpl2 hpl3 HP2 HK2 hcap
  generalize w2.heap.size + 1 = sbk at *
  go_region_with (fail)
  all_goals
    go_wp2
    go_ret
    have h0 : BlkAt w5 pb ((playV0 hbk sd P).set 8 (.slice (some ⟨sbk, 0, none⟩) 1 cp)) 37 := HP5.out
    refine ⟨rfl, ⟨?_, ?_⟩, ((((HK5.out.set (b := pb) (i := 9) (.inl (.inr (.inr rfl)))).alloc _).alloc _).drew).drew⟩
    · exact BlkAt.cell (((h0.set 9 _).alloc _).alloc _) (i := 2) rfl
    · exact BlkAt.cell (((h0.set 9 _).alloc _).alloc _) (i := 3) rfl
end
end Go.Proofs.YtdianedehhecoaaGreatDoor
