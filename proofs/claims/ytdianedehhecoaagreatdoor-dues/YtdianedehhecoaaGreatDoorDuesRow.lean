/- Dues: the row and the card, out of the walk and what begin leaves. -/
import Derived.Test.YtdianedehhecoaaGreatDoorDuesArg
import Derived.Test.YtdianedehhecoaaGreatDoorLaidRow
import Derived.Test.YtdianedehhecoaaGreatDoorLeaving
import Derived.Test.YtdianedehhecoaaGreatDoorCards
import Derived.Test.YtdianedehhecoaaGreatDoorTie
import Derived.Carry
import Derived.SevenTiedAt
namespace Go.Proofs.YtdianedehhecoaaGreatDoor
open Go.ChangeShapes Go.WideShapes Go.ChangeAt Go.RowKit
set_option linter.unusedVariables false
set_option linter.unusedSimpArgs false

/-- what begin leaves, whatever the seed and the number of players -/
def BeginAny : Prop := ∀ (seed players : Int) (w : World), -9223372036854775808 ≤ seed → seed ≤ 9223372036854775807 → -9223372036854775808 ≤ players → players ≤ 9223372036854775807 → Corners w → w.cell? ⟨4, 15, none⟩ = some (.int .u8 4) →
  Calls Tryz.prog 12 #[.int .i64 seed, .int .i64 players, .int .i64 0] w (Begun w (pickF seed 1000) (2 + pickF players 3).toNat)

set_option maxRecDepth 100000 in
theorem dues_lifted (hB : BeginAny) (os : Os) (started : os.Started) (H : Type) (enc : TypeId × Value → H) (F : Stop.Interp) :
    ReturnsInLeavingWide { calm := true } Tryz.checked os 9 .any (fun w args => (Rows.duesSpec.pre enc Tryz.prog Tryz.f9 [] false w args ∧ laidMetH Tryz.prog laid4 w) ∧ sizedMet enc Tryz.prog Tryz.f9 (OpenSpec.ofChange Rows.duesSpec) false w args)
      ((OpenSpec.ofChange Rows.duesSpec).postWith enc Tryz.prog Tryz.f9 F (outsideKept [.timePasses]) false true false) := by
  refine leaving_of_change (C := Tryz.checked) (X := fun w _ => laidMetH Tryz.prog laid4 w) (fun _ _ _ hh h => h.of_heap hh) own started (by kernel_rfl) Tryz.func9
    (witness_calm (enc := enc) (C := Tryz.checked) (os := os) (X := fun w _ => laidMetH Tryz.prog laid4 w) (World.doorLaid Tryz.prog 41 os) #[.int .i64 0, .int .i64 0, .slice none 0 0] 8 rfl (World.shaped_of_RefB (by kernel_rfl) (by kernel_rfl)) (by kernel_rfl) (by kernel_rfl) (by kernel_rfl) (door_met os _)) ?_
  intro W base args ds gs before hval0 hW hsz0 hL
  have hval : ∀ (j : Nat) t v, Tryz.f9.params[j]? = some t → args[j]? = some v → Value.okWide Tryz.prog W .any base t v := hval0
  have hsz : (DataW.weightsEach Tryz.prog (Tryz.f9.params.toList ++ Rows.duesSpec.plain.varTypes Tryz.prog) (ds ++ gs)).all (· ≤ reachBytes) = true := hsz0
  have hW' := hW
  obtain ⟨p, q, hA0, hV, rfl, hfz, hnd⟩ := hW
  have hA : DataW.TrodAll enc Tryz.prog W 0 (fun _ => true) true Tryz.f9.params.toList args.toList ds p := hA0
  rw [Tryz.params9] at hA hval hsz
  obtain ⟨v0, vs0, d0, ds0, p0, q0, hargs, rfl, rfl, h0, r0⟩ := trodAll_cons hA
  obtain ⟨v1, vs1, d1, ds1, p1, q1, rfl, rfl, rfl, h1, r1⟩ := trodAll_cons r0
  obtain ⟨v2, vs2, d2, ds2, p2, q2, rfl, rfl, rfl, h2, r2⟩ := trodAll_cons r1
  obtain ⟨rfl, rfl, rfl⟩ := trodAll_nil r2
  obtain rfl : args = #[v0, v1, v2] := by cases args; simp_all
  obtain ⟨rfl, rfl⟩ := trodVars_none hV
  have k2 := h2
  have lt2 : ∀ x ∈ p2, x.block < W.heap.size := fun x hx => hW'.lt x (by simp [hx])
  obtain ⟨a0, rfl, rfl, rfl, w0⟩ := open_int Tryz.underlying3 (hval 0 3 v0 rfl rfl) h0
  obtain ⟨a1, rfl, rfl, rfl, w1⟩ := open_int Tryz.underlying3 (hval 1 3 v1 rfl rfl) h1
  obtain ⟨ta, tl, tc, rfl⟩ := okWide_slice (e := 25) (show Tryz.prog.underlying 52 = some (.slice 25) by kernel_rfl) (hval 2 52 v2 rfl rfl)
  obtain ⟨fuel, hf⟩ := h2
  obtain ⟨L, hT, hl1, hl2⟩ := arg_open (t2 := 25) (e := 3) (show Tryz.prog.underlying 52 = some (.slice 25) by kernel_rfl) (by kernel_rfl) Tryz.underlying3 (by kernel_rfl) (by kernel_rfl) (by kernel_rfl) (by decide +kernel) hf
    (fun n hn => by simpa using List.all_eq_true.1 hsz n (DataW.weights_mem_each (j := 2) (t := 52) (d := d2) rfl rfl n hn))
  obtain ⟨hC, hD⟩ := of_laid hL
  have b0 := (Lit.wf_int_iff .i64 _).1 w0
  have b1 := (Lit.wf_int_iff .i64 _).1 w1
  have g0 := pickF_range a0 1000 (by omega)
  have g1 := pickF_range a1 3 (by omega)
  clear hA0 hval0 hsz0 hsz
  refine (Dues_any a0 a1 _ L W hT hl1 hl2 hC hD (2 + pickF a1 3).toNat (by omega) (by omega) (pickF a0 1000) g0.1 (by omega) (hB a0 a1 W b0.1 b0.2 b1.1 b1.2 hC hD)).mono fun e W' ⟨he, bel⟩ => ?_
  subst he
  exact ⟨_, rfl, ⟨_, _, _, [], _, [], hW', trodAll_mk1 (shut_bool Tryz.underlying4 _), (trodAll_cons_mk (shut_int Tryz.underlying3 w0) (trodAll_cons_mk (shut_int Tryz.underlying3 w1) (trodAll_cons_mk (Below.trod laidOut (by kernel_rfl) (of_decide_eq_true (by kernel_rfl)) k2 bel lt2) trodAll_mk0))), rfl, bel.frame _, fun h => by cases h⟩, bel.os⟩

/-- a tied card of a row in whose text goroutines are started -/
theorem tied_goes (Lk : Looks) {p : Pinned} {s : OpenSpec} {c : OpenClaim} (kinds : List LaidKind) (tests : Bool) (har : Bool × String) (lk g : Bool) (hc : c.holds p s) (hw : c.wfByText s = true) (htie : c.laidByTextAt Lk p kinds tests)
    (hst : c.start = .entering) (hnb : c.noBlocks = false ∧ c.again = false) (hm : p.checked.prog.mainIs = some (har.1, har.2.toList)) (hn : (!har.1 && har.2.isEmpty && !lk) = false)
    (hl : ∀ f fn, p.checked.prog.funcNamed c.func = some f → p.checked.prog.funcs[f]? = some fn → lk = p.checked.prog.looks [] ∧ ∀ (j : Nat) t, fn.params[j]? = some t → p.checked.prog.wantsStandIn t = false)
    (hg : g = c.goesBy p.checked.prog) :
    Claim7.holds p (.plain s) { stood := { row := c, standIns := [], harness := har, looks := lk }, kinds := [], alts := [], goes := g, laidByText := true, laidKinds := kinds, laidTests := tests, laidLooks := Lk } := by
  have h6 : Claim7.isSixth { stood := { row := c, standIns := [], harness := har, looks := lk }, kinds := [] } = false := by simpa [Claim7.isSixth] using hn
  have h1 : Claim7.holdsOne p (.plain s) { stood := { row := c, standIns := [], harness := har, looks := lk }, kinds := [], alts := [], laidByText := true, laidKinds := kinds, laidTests := tests, laidLooks := Lk } := Claim7.tied_new_at Lk kinds tests (Claim7.new_of_sixth hc har lk hst hnb hm h6 hl) hw
  exact ⟨(Claim7.holdsOne_goes p (.plain s) _ g).2 h1, (fun D hD => by cases hD), htie, (fun h => by cases h), hg⟩
theorem dues_row_of (hB : BeginAny) : Rows.DuesSaid :=
  OpenClaim.holds_of_wide_leaving_time 9 Tryz.f9 rfl rfl rfl rfl rfl rfl rfl ⟨rfl, rfl, rfl, rfl, rfl⟩ rfl rfl rfl rfl rfl (by kernel_rfl) Tryz.func9 (by kernel_rfl)
    (of_decide_eq_true (by kernel_rfl)) (by unfold Func.isWrapper; first | (rw [if_pos (by decide +kernel)]; kernel_rfl) | (rw [if_neg (by decide +kernel)]; exact ⟨rfl, rfl⟩))
    (fun os started H enc _ F => dues_lifted hB os started H enc F)
theorem dues_card_of (hB : BeginAny) : Rows.DuesCardSaid :=
  tied_goes .later [.data, .data, .data, .data] true Rows.duesCard.stood.harness false true
    (dues_row_of hB) (by kernel_rfl) dues_row_tie rfl ⟨rfl, rfl⟩ (by kernel_rfl) rfl
    (fun f fn hf hfn => by
      obtain rfl : f = 9 := Option.some.inj ((show Tryz.prog.funcNamed "garrison/garrisonkeep.Dues" = some 9 by kernel_rfl).symm.trans hf) |>.symm
      obtain rfl : fn = Tryz.f9 := (Option.some.inj (Tryz.func9.symm.trans hfn)).symm
      exact ⟨by kernel_rfl, fun j t ht => by
        rw [Tryz.params9] at ht
        have hm : t ∈ [3, 3, 52] := by simpa using Array.mem_of_getElem? ht
        have hall : ([3, 3, 52].all fun u => !Tryz.prog.wantsStandIn u) = true := by kernel_rfl
        exact (show Tryz.prog.wantsStandIn t = false by simpa using List.all_eq_true.1 hall t hm)⟩)
    (by kernel_rfl)
#print axioms dues_card_of
end Go.Proofs.YtdianedehhecoaaGreatDoor
