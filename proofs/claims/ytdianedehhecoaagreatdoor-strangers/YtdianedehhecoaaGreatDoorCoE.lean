/- WaitGroup.Go up to its go statement, reckoned. -/
import Derived.Test.YtdianedehhecoaaGreatDoorCoD
import Derived.Test.YtdianedehhecoaaGreatDoorHosts
import Derived.Test.YtdianedehhecoaaGreatDoorCoC
import Derived.Test.YtdianedehhecoaaGreatDoorCoB
import Derived.Test.YtdianedehhecoaaGreatDoorKeeps
import Derived.Conc.LeavingOf
import Derived.Listen
import Derived.Conc.HoldsTime
import Derived.Handed
import Derived.LaidLaws
namespace Go.Proofs.YtdianedehhecoaaGreatDoor.Co
variable [Loops]
set_option linter.unusedSectionVars false
open Go.Conc (G QuitsD)
set_option maxRecDepth 100000
set_option linter.unusedVariables false
set_option linter.unusedSimpArgs false
set_option linter.constructorNameAsVariable false
def S71 (wg b1 : Nat) : List Sc := [.q 3, .l 222 (pB b1) (pSt wg), .q 48, .v 210 #[pSt wg, u64 4294967296] (u64 4294967296), .q 52, .c 233 115 (pSm wg), .v 179 #[pSm wg] unitV, .q 44]
section
variable (cs : List Frame) (h ms ch m ad f : Value) (wg b1 : Nat)
/-- group.Go is entered -/
noncomputable def mE : Goroutine := G (Frame.enter Tryz.prog 71 #[pSt wg, f] .normal) (host8 h ms ch m ad f wg :: cs)
/-- .. its first box -/
noncomputable def mB : Goroutine := endS Tryz.prog true [.q 2] (mE cs h ms ch m ad f wg)
noncomputable def mB3 : Goroutine := fin (fin (mB cs h ms ch m ad f wg) (pB b1)) (pB (b1 + 1))
theorem enter71 (w : World) : stepG Tryz.prog true (G (host8 h ms ch m ad f wg) cs) w = .go (mE cs h ms ch m ad f wg) w #[] := by kernel_rfl
theorem scrE : ∀ w, scr Tryz.prog true [.q 2] (mE cs h ms ch m ad f wg) w = exS Tryz.prog true [.q 2] (mE cs h ms ch m ad f wg) w := by intro w; kernel_rfl
theorem okE : okS Tryz.prog true [.q 2] (mE cs h ms ch m ad f wg) = true := by kernel_rfl
theorem dfE : dfS Tryz.prog true [.q 2] (mE cs h ms ch m ad f wg) 0 = [0] := by kernel_rfl
theorem boxA (w : World) : stepG Tryz.prog true (mB cs h ms ch m ad f wg) w = .go (fin (mB cs h ms ch m ad f wg) (pB w.heap.size)) (w.alloc (.cells #[pSt wg] 222 (0, 0))) #[] := by kernel_rfl
theorem boxB (mv : Value) (w : World) : stepG Tryz.prog true (fin (mB cs h ms ch m ad (.func (.func 72) #[mv] #[]) wg) (pB b1)) w = .go (fin (fin (mB cs h ms ch m ad (.func (.func 72) #[mv] #[]) wg) (pB b1)) (pB w.heap.size)) (w.alloc (.cells #[.func (.func 72) #[mv] #[]] 1 (0, 0))) #[] := by kernel_rfl
theorem runB1 : (mB cs h ms ch m ad f wg).status = .running := by kernel_rfl
theorem runB2 : (fin (mB cs h ms ch m ad f wg) (pB b1)).status = .running := by kernel_rfl
theorem scr71 : ∀ w, scr Tryz.prog true (S71 wg b1) (mB3 cs h ms ch m ad f wg b1) w = exS Tryz.prog true (S71 wg b1) (mB3 cs h ms ch m ad f wg b1) w := by intro w; kernel_rfl
theorem ok71 : okS Tryz.prog true (S71 wg b1) (mB3 cs h ms ch m ad f wg b1) = true := by kernel_rfl
theorem df71 : dfS Tryz.prog true (S71 wg b1) (mB3 cs h ms ch m ad f wg b1) 0 = [0, 0, 1, 1, 1, 1, 1, 0] := by kernel_rfl
theorem end71 : endS Tryz.prog true (S71 wg b1) (mB3 cs h ms ch m ad f wg b1) = mGo cs h ms ch m ad f wg b1 := by kernel_rfl
end
end Go.Proofs.YtdianedehhecoaaGreatDoor.Co

/- WaitGroup.Go up to its go statement: two boxes, the count goes up; goroutine 0 alone beside leavers. -/
namespace Go.Proofs.YtdianedehhecoaaGreatDoor.Co
variable [Loops]
set_option linter.unusedSectionVars false
open Go.Conc (G QuitsD)
set_option maxRecDepth 20000
set_option linter.unusedVariables false
set_option linter.unusedSimpArgs false
set_option linter.constructorNameAsVariable false
section
variable {Γ : Nat → Prop} {P : Two}
/-- goroutine 0 is g, and its world is W but for what was drawn -/
def MW (Γ : Nat → Prop) (P : Two) (δ : Nat) (g : Goroutine) (W : World) (c : Conf) : Prop := MainD Γ P δ g c ∧ ∃ d, c.w = W.at d
theorem mw_step {δ δ' : Nat} {g g' : Goroutine} {W W' : World} (hr : g.status = .running) (hs : ∀ d, ∃ ev, stepG P.g true g (W.at d) = .go g' (W'.at d) ev ∧ (∀ e ∈ ev, soft Γ e) ∧ Go.deafBehind δ ev = δ') (c : Conf) (h : MW Γ P δ g W c) : Leads P.g c (MW Γ P δ' g' W') := by
  obtain ⟨hM, d0, hw⟩ := h
  refine (any_turnD (X := fun x u => x = g' ∧ ∃ d, u = W'.at d) hr c (fun d => ?_) hM).mono fun c' ⟨a', q1, ⟨q2, q3⟩, _⟩ => ⟨q2 ▸ q1, q3⟩
  obtain ⟨ev, e1, e2, e3⟩ := hs d
  exact ⟨g', W'.at d, ev, by rw [hw]; exact e1, e2, e3, rfl, d, rfl⟩
theorem mw_fin {δ δ' : Nat} {g : Goroutine} (v : Value) {W W' : World} (hr : g.status = .running) (hs : ∀ d, ∃ ev, stepG P.g true g (W.at d) = .go (fin g v) (W'.at d) ev ∧ (∀ e ∈ ev, soft Γ e) ∧ Go.deafBehind δ ev = δ') (c : Conf) (h : MW Γ P δ g W c) : Leads P.g c (MW Γ P δ' (fin g v) W') := mw_step hr hs c h
theorem mw_to {p : Program} (hpp : p = P.g) {U : World → Prop} {X : Nat → Goroutine → Prop} {r δ : Nat} {a : Goroutine} {W : World} (hU : ∀ d, U (W.at d)) (h : QTo p true U X r δ a) : ∀ c : Conf, MW Γ P δ a W c → Leads P.g c fun c' => ∃ δ' a', X δ' a' ∧ MW Γ P δ' a' W c' := by
  subst hpp
  induction h with
  | here h => exact fun c hM => Leads.refl ⟨_, _, h, hM⟩
  | @step r δ g g' es h1 h2 h3 _ ih =>
    intro c hM
    exact (mw_step (W' := W) h1 (fun d => ⟨es, h3 _ (hU d), fun e he x hx => (by rw [touch_none_mute (h2 e he)] at hx; cases hx), rfl⟩) c hM).trans fun c1 h1 => ih c1 h1
theorem mw_q {i δ δ' : Nat} {g : Goroutine} {W : World} (hpp : Tryz.prog = P.g) (hq : Quiet Tryz.prog true g (trL Tryz.prog true i g)) (hr : g.status = .running) (ho : okL (trL Tryz.prog true i g) = true) (hd : deafL δ (trL Tryz.prog true i g) = δ') (c : Conf) (h : MW Γ P δ g W c) : Leads P.g c (MW Γ P δ' (lastG g (trL Tryz.prog true i g)) W) := by
  obtain ⟨r1, t1⟩ : Tq Tryz.prog true (fun _ => True) (fun δ x => δ = δ' ∧ x = lastG g (trL Tryz.prog true i g)) δ g := Tq.quiet hq hr ho hd (Tq.here ⟨rfl, rfl⟩)
  refine (mw_to hpp (fun _ => trivial) t1 c h).mono ?_
  rintro c2 ⟨_, _, ⟨rfl, rfl⟩, h2⟩
  exact h2
theorem wrapA : IntKind.u64.wrap (0 + 4294967296) = 4294967296 := by decide
/-- the count goes up -/
theorem add_leads (hpp : Tryz.prog = P.g) {k : Wk} (hk : k.p = Tryz.prog) {b1 : Nat} {g gE : Goroutine} (hw : Way Tryz.prog true (S71 k.wg b1) g) (hd : dfS Tryz.prog true (S71 k.wg b1) g 0 = [0, 0, 1, 1, 1, 1, 1, 0]) (he : endS Tryz.prog true (S71 k.wg b1) g = gE) (hG1 : ¬ Γ k.wg) (hG2 : ¬ Γ b1) {W : World} (ha : k.at W 0 0) (hb : W.cell? ⟨b1, 0, none⟩ = some (pSt k.wg)) (c : Conf) (h : MW Γ P 0 g W c) :
    Leads P.g c (MW Γ P 0 gE (W.setCell k.st (.int .u64 KK))) := by
  have ha2 := ha.set_st KK
  obtain ⟨a0, a1, a2, a3, a4, a5, a6, a7, a8, a9, a10, a11, a12, a13, a14, a15, a16, a17, a18, a19, _⟩ := hw
  obtain ⟨d0, hd⟩ := df_q hd
  obtain ⟨d1, hd⟩ := df_q (df_l hd)
  obtain ⟨d2, hd⟩ := df_q (df_v hd)
  obtain ⟨d3, hd⟩ := df_q (df_v (df_c hd))
  refine (mw_q hpp a1 a0 a2 d0 c h).trans fun c1 h1 => ?_
  refine (mw_step (W' := W) (g' := fin (lastG g (trL Tryz.prog true 3 g)) (pSt k.wg)) (δ' := 0) a3 (fun d => ?_) c1 h1).trans fun c2 h2 => ?_
  · obtain ⟨ev, e1, e2⟩ := step_loadv (p := Tryz.prog) (mn := true) (w := W.at d) a4 (agg222 _) (eagg222 _) hb
    refine ⟨ev, by rw [← hpp]; exact e1, fun e he x hx => ?_, Go.Conc.deafBehind_still (fun e he => ?_) 0⟩
    · rw [e2 e he] at hx
      simp [MemAct.ofEvent, MemAct.touch?] at hx
      subst hx
      exact hG2
    · rw [e2 e he]
      exact ⟨(by intro x; cases x), (by intro x; cases x)⟩
  refine (mw_q hpp a6 a5 a7 d1 c2 h2).trans fun c3 h3 => ?_
  refine (mw_fin (u64 4294967296) (W' := W.setCell k.st (.int .u64 KK)) (δ' := 1) a8 (fun d => ?_) c3 h3).trans fun c4 h4 => ?_
  · have := step_add (p := Tryz.prog) (m := true) (w := W.at d) a9 x210 (ha.drew d).cst.1 (ha.drew d).cst.2
    rw [wrapA] at this
    refine ⟨#[rdE k.st, wrE k.st], by rw [← hpp]; exact this, fun e he x hx => ?_, rfl⟩
    simp only [List.mem_toArray, List.mem_cons, List.not_mem_nil, or_false] at he
    rcases he with rfl | rfl
    · simp [MemAct.ofEvent, MemAct.touch?, rdE] at hx
      subst hx
      exact hG1
    · simp [MemAct.ofEvent, MemAct.touch?, wrE] at hx
      subst hx
      exact hG1
  refine (mw_q hpp a11 a10 a12 d2 c4 h4).trans fun c5 h5 => ?_
  refine (mw_fin (pSm k.wg) (W' := W.setCell k.st (.int .u64 KK)) (δ' := 1) a13 (fun d => ⟨#[], by rw [← hpp]; exact step_conv a14 u233 uUP z128 (ha2.drew d).csm.1, fun e he => by simp at he, rfl⟩) c5 h5).trans fun c6 h6 => ?_
  refine (mw_fin unitV (W' := W.setCell k.st (.int .u64 KK)) (δ' := 1) a15 (fun d => ⟨#[mkE (.read k.sm)], by rw [← hpp]; exact step_markAt (p := Tryz.prog) (m := true) (fun _ _ => by simp) a16 x179, fun e he x hx => ?_, rfl⟩) c6 h6).trans fun c7 h7 => ?_
  · simp only [List.mem_toArray, List.mem_cons, List.not_mem_nil, or_false] at he
    subst he
    simp [MemAct.ofEvent, MemAct.touch?, mkE] at hx
    subst hx
    exact hG1
  refine (mw_q hpp a18 a17 a19 d3 c7 h7).mono fun c8 h8 => ?_
  rw [← he]
  exact h8
end
/-- the small world once the group and its boxes are ghosts -/
def haunt (w : World) (wg : Nat) : World := { w with heap := ((w.heap.setIfInBounds wg (.pending #[.int .u64 0, .int .u32 0] 146)).push (.pending #[.pointer none] 222)).push (.pending #[.nilFunc] 1) }
theorem gh_haunt {Γ : Nat → Prop} {w b : World} {wg : Nat} {v1 v2 x1 x2 : Value} (h : Gh Γ w b) (hG : ¬ Γ wg) (hold : Loops.old ≤ wg) (hb : b.heap[wg]? = some (.cells #[x1, x2] 146 (0, 0))) (v : Value) :
    Gh (grown Γ wg b.heap.size) (haunt w wg) (((b.alloc (.cells #[v1] 222 (0, 0))).alloc (.cells #[v2] 1 (0, 0))).setCell ⟨wg, 0, none⟩ v) := by
  have hlt : wg < b.heap.size := (Array.getElem?_eq_some_iff.1 hb).1
  have hs : w.heap.size = b.heap.size := h.size.symm
  have hs2 : (haunt w wg).heap.size = b.heap.size + 2 := by simp [haunt, hs]
  have al : ∀ (u : World) (o : Obj), (u.alloc o).heap = u.heap.push o := fun _ _ => rfl
  have hbs : (((b.alloc (.cells #[v1] 222 (0, 0))).alloc (.cells #[v2] 1 (0, 0))).setCell ⟨wg, 0, none⟩ v).heap.size = b.heap.size + 2 := by rw [World.size_setCell, al, al, Array.size_push, Array.size_push]
  have old : ∀ j : Nat, j < b.heap.size → j ≠ wg → (((b.alloc (.cells #[v1] 222 (0, 0))).alloc (.cells #[v2] 1 (0, 0))).setCell ⟨wg, 0, none⟩ v).heap[j]? = b.heap[j]? ∧ (haunt w wg).heap[j]? = w.heap[j]? := fun j hj hne => by
    constructor
    · rw [heap_setCell_other _ _ _ _ hne, al, al, Array.getElem?_push, if_neg (by rw [Array.size_push]; omega), Array.getElem?_push, if_neg (by omega)]
    · show (((w.heap.setIfInBounds wg _).push _).push _)[j]? = _
      rw [Array.getElem?_push, if_neg (by rw [Array.size_push, Array.size_setIfInBounds]; omega), Array.getElem?_push, if_neg (by rw [Array.size_setIfInBounds]; omega), Array.getElem?_setIfInBounds_ne (Ne.symm hne)]
  have gw : (((b.alloc (.cells #[v1] 222 (0, 0))).alloc (.cells #[v2] 1 (0, 0))).setCell ⟨wg, 0, none⟩ v).heap[wg]? = some (.cells #[v, x2] 146 (0, 0)) := by
    have : ((b.alloc (.cells #[v1] 222 (0, 0))).alloc (.cells #[v2] 1 (0, 0))).heap[wg]? = some (.cells #[x1, x2] 146 (0, 0)) := by
      rw [al, al, Array.getElem?_push, if_neg (by rw [Array.size_push]; omega), Array.getElem?_push, if_neg (by omega)]
      exact hb
    rw [heap_setCell_same _ _ _ _ _ _ this]
    simp
  have g1 : (((b.alloc (.cells #[v1] 222 (0, 0))).alloc (.cells #[v2] 1 (0, 0))).setCell ⟨wg, 0, none⟩ v).heap[b.heap.size]? = some (.cells #[v1] 222 (0, 0)) := by
    rw [heap_setCell_other _ _ _ _ (show b.heap.size ≠ wg by omega), al, al, Array.getElem?_push, if_neg (by rw [Array.size_push]; omega), Array.getElem?_push, if_pos rfl]
  have g2 : (((b.alloc (.cells #[v1] 222 (0, 0))).alloc (.cells #[v2] 1 (0, 0))).setCell ⟨wg, 0, none⟩ v).heap[b.heap.size + 1]? = some (.cells #[v2] 1 (0, 0)) := by
    rw [heap_setCell_other _ _ _ _ (show b.heap.size + 1 ≠ wg by omega), al, al, Array.getElem?_push, if_pos (by rw [Array.size_push])]
  have k0 : (haunt w wg).heap[wg]? = some (.pending #[.int .u64 0, .int .u32 0] 146) := by
    show (((w.heap.setIfInBounds wg _).push _).push _)[wg]? = _
    rw [Array.getElem?_push, if_neg (by rw [Array.size_push, Array.size_setIfInBounds]; omega), Array.getElem?_push, if_neg (by rw [Array.size_setIfInBounds]; omega), Array.getElem?_setIfInBounds_self_of_lt (by omega)]
  have k1 : (haunt w wg).heap[b.heap.size]? = some (.pending #[.pointer none] 222) := by
    show (((w.heap.setIfInBounds wg _).push _).push _)[b.heap.size]? = _
    rw [Array.getElem?_push, if_neg (by rw [Array.size_push, Array.size_setIfInBounds]; omega), Array.getElem?_push, if_pos (by rw [Array.size_setIfInBounds]; omega)]
  have k2 : (haunt w wg).heap[b.heap.size + 1]? = some (.pending #[.nilFunc] 1) := by
    show (((w.heap.setIfInBounds wg _).push _).push _)[b.heap.size + 1]? = _
    rw [Array.getElem?_push, if_pos (by rw [Array.size_push, Array.size_setIfInBounds]; omega)]
  refine ⟨h.os, h.output, by rw [hbs, hs2], fun j hj => ?_, fun j hj => ?_, fun j o ho l e => ?_, ⟨by rw [hs2]; have := h.grew.1; omega, fun j hj => ?_⟩⟩
  · have hne : j ≠ wg := fun e => hj (.inr (.inl e))
    rcases Nat.lt_or_ge j b.heap.size with hlt' | hge
    · rw [(old j hlt' hne).1, (old j hlt' hne).2]
      exact h.same j fun x => hj (.inl x)
    · have hj1 : j ≠ b.heap.size := fun e => hj (.inr (.inr (.inl e)))
      have hj2 : j ≠ b.heap.size + 1 := fun e => hj (.inr (.inr (.inr e)))
      rw [Array.getElem?_eq_none (by rw [hbs]; omega), Array.getElem?_eq_none (by rw [hs2]; omega)]
      refine .inl ⟨?_, rfl⟩
      rcases h.same j (fun x => hj (.inl x)) with ⟨en, _⟩ | ⟨_, _, e1, _⟩
      · exact en
      · rw [Array.getElem?_eq_none (by omega)] at e1; cases e1
  · rcases hj with hj | rfl | rfl | rfl
    · have hne : j ≠ wg := fun e => hG (e ▸ hj)
      obtain ⟨c, t, c', e1, e2, e3, e4⟩ := h.ghost j hj
      have hlt' : j < b.heap.size := (Array.getElem?_eq_some_iff.1 e2).1
      exact ⟨c, t, c', by rw [(old j hlt' hne).2]; exact e1, by rw [(old j hlt' hne).1]; exact e2, e3, e4⟩
    · exact ⟨_, _, _, k0, gw, rfl, by decide⟩
    · exact ⟨_, _, _, k1, g1, rfl, by decide⟩
    · exact ⟨_, _, _, k2, g2, rfl, by decide⟩
  · subst e
    by_cases e0 : j = wg
    · subst e0; rw [k0] at ho; cases ho
    · rcases Nat.lt_or_ge j b.heap.size with hlt' | hge
      · rw [(old j hlt' e0).2] at ho
        exact h.calm j _ ho l rfl
      · by_cases e1 : j = b.heap.size
        · subst e1; rw [k1] at ho; cases ho
        · by_cases e2 : j = b.heap.size + 1
          · subst e2; rw [k2] at ho; cases ho
          · rw [Array.getElem?_eq_none (by rw [hs2]; omega)] at ho; cases ho
  · rcases hj with hj | rfl | rfl | rfl
    · exact h.grew.2 j hj
    · exact hold
    · have := h.grew.1; omega
    · have := h.grew.1; omega
end Go.Proofs.YtdianedehhecoaaGreatDoor.Co

/- THE TICK, from Host.Tick's call of group.Go to its return from group.Wait. -/
namespace Go.Proofs.YtdianedehhecoaaGreatDoor.Co
variable [Loops]
set_option linter.unusedSectionVars false
open Go.Conc (G QuitsD)
set_option maxRecDepth 20000
set_option linter.unusedVariables false
set_option linter.unusedSimpArgs false
set_option linter.constructorNameAsVariable false
section
variable {Γ : Nat → Prop} {P : Two}
theorem mw_way (hpp : Tryz.prog = P.g) {i : Nat} {g gE : Goroutine} {W : World} (hw : Way Tryz.prog true [.q i] g) (hd : dfS Tryz.prog true [.q i] g 0 = [0]) (he : endS Tryz.prog true [.q i] g = gE) (c : Conf) (h : MW Γ P 0 g W c) : Leads P.g c (MW Γ P 0 gE W) := by
  obtain ⟨d, _⟩ := df_q hd
  refine (mw_q hpp hw.2.1 hw.1 hw.2.2.1 d c h).mono fun c1 h1 => ?_
  rw [← he]
  exact h1
theorem MW.world {δ : Nat} {g : Goroutine} {W W' : World} {c : Conf} (h : MW Γ P δ g W c) (e : W = W') : MW Γ P δ g W' c := e ▸ h
end
theorem tick_leads {Γ : Nat → Prop} {cs : List Frame} {h ms ch m ad mv : Value} {wg : Nat} {c : Conf} {w : World} {R : (Nat → Question → Nat) → Nat → Ending → World → Prop}
    (hM : Main Γ PP (G (host8 h ms ch m ad (.func (.func 72) #[mv] #[]) wg) cs) c) (hg : Gh Γ w c.w) (hG : ¬ Γ wg) (hold : Loops.old ≤ wg) (hw : w.heap[wg]? = some (.cells #[.int .u64 0, .int .u32 0] 146 (0, 0))) (hR : ∀ t d e w', R t d e w' → e = .returned (.tuple #[])) (hC : ∀ t d, Calls PP.s 72 #[mv] (re (haunt w wg) t d) (R t d)) :
    Leads PP.g c fun c' => ∃ Γ' w', (∃ t d t' d', R t d (.returned (.tuple #[])) (re w' t' d')) ∧ Main Γ' PP (mZ cs h ms ch m ad (.func (.func 72) #[mv] #[]) wg) c' ∧ Gh Γ' w' c'.w := by
  have hb : c.w.heap[wg]? = some (.cells #[.int .u64 0, .int .u32 0] 146 (0, 0)) := hg.back hG hw (by intro e; cases e)
  have hlt : wg < c.w.heap.size := (Array.getElem?_eq_some_iff.1 hb).1
  have hGb : ∀ j, c.w.heap.size ≤ j → ¬ Γ j := fun j hj hΓ => by
    obtain ⟨_, _, _, _, e2, _⟩ := hg.ghost j hΓ
    have := (Array.getElem?_eq_some_iff.1 e2).1
    omega
  have al : ∀ (u : World) (o : Obj), (u.alloc o).heap = u.heap.push o := fun _ _ => rfl
  have m0 : MW Γ PP 0 (G (host8 h ms ch m ad (.func (.func 72) #[mv] #[]) wg) cs) c.w c := ⟨hM, c.w.drawn, rfl⟩
  refine (mw_step (g' := mE cs h ms ch m ad (.func (.func 72) #[mv] #[]) wg) (W' := c.w) (δ' := 0) rfl (fun d => ⟨#[], by rw [PP_g]; exact enter71 _ _ _ _ _ _ _ _ _, fun e he => by simp at he, rfl⟩) c m0).trans fun c1 m1 => ?_
  refine (mw_way (gE := mB cs h ms ch m ad (.func (.func 72) #[mv] #[]) wg) PP_g.symm (way_of _ _ (scrE _ _ _ _ _ _ _ _) (okE _ _ _ _ _ _ _ _)) (dfE _ _ _ _ _ _ _ _) rfl c1 m1).trans fun c2 m2 => ?_
  refine (mw_fin (pB c.w.heap.size) (W' := c.w.alloc (.cells #[pSt wg] 222 (0, 0))) (δ' := 0) (runB1 _ _ _ _ _ _ _ _) (fun d => ⟨#[], by rw [PP_g]; exact boxA _ _ _ _ _ _ _ _ _, fun e he => by simp at he, rfl⟩) c2 m2).trans fun c3 m3 => ?_
  refine (mw_fin (pB (c.w.heap.size + 1)) (W' := (c.w.alloc (.cells #[pSt wg] 222 (0, 0))).alloc (.cells #[.func (.func 72) #[mv] #[]] 1 (0, 0))) (δ' := 0) (runB2 _ _ _ _ _ _ _ _ _) (fun d => ⟨#[], ?_, fun e he => by simp at he, rfl⟩) c3 m3).trans fun c4 m4 => ?_
  · rw [PP_g]
    have := boxB cs h ms ch m ad wg c.w.heap.size mv ((c.w.alloc (.cells #[pSt wg] 222 (0, 0))).at d)
    have hs : ((c.w.alloc (.cells #[pSt wg] 222 (0, 0))).at d).heap.size = c.w.heap.size + 1 := by
      show (c.w.heap.push _).size = _
      rw [Array.size_push]
    rw [hs] at this
    exact this
  have hat : (wk cs h ms ch m ad (.func (.func 72) #[mv] #[]) wg).at ((c.w.alloc (.cells #[pSt wg] 222 (0, 0))).alloc (.cells #[.func (.func 72) #[mv] #[]] 1 (0, 0))) 0 0 := by
    show ((c.w.heap.push _).push _)[wg]? = _
    rw [Array.getElem?_push, if_neg (by rw [Array.size_push]; omega), Array.getElem?_push, if_neg (by omega)]
    exact hb
  have hbx : ((c.w.alloc (.cells #[pSt wg] 222 (0, 0))).alloc (.cells #[.func (.func 72) #[mv] #[]] 1 (0, 0))).heap[c.w.heap.size]? = some (.cells #[pSt wg] 222 (0, 0)) := by
    show ((c.w.heap.push _).push _)[c.w.heap.size]? = _
    rw [Array.getElem?_push, if_neg (by rw [Array.size_push]; omega), Array.getElem?_push, if_pos rfl]
  have hby : ((c.w.alloc (.cells #[pSt wg] 222 (0, 0))).alloc (.cells #[.func (.func 72) #[mv] #[]] 1 (0, 0))).heap[c.w.heap.size + 1]? = some (.cells #[.func (.func 72) #[mv] #[]] 1 (0, 0)) := by
    show ((c.w.heap.push _).push _)[c.w.heap.size + 1]? = _
    rw [Array.getElem?_push, if_pos (by rw [Array.size_push])]
  refine (add_leads (k := wk cs h ms ch m ad (.func (.func 72) #[mv] #[]) wg) (b1 := c.w.heap.size) PP_g.symm wk_p (way_of _ _ (scr71 cs h ms ch m ad (.func (.func 72) #[mv] #[]) wg c.w.heap.size) (ok71 _ _ _ _ _ _ _ _ _)) (df71 _ _ _ _ _ _ _ _ _) (end71 _ _ _ _ _ _ _ _ _) hG (hGb _ (Nat.le_refl _)) hat (by simp [World.cell?, hbx]; rfl) c4 m4).trans fun c5 m5 => ?_
  obtain ⟨hM5, d5, hw5⟩ := m5
  have hgr : Gh (grown Γ wg c.w.heap.size) (haunt w wg) c5.w := by
    rw [hw5]
    exact (gh_haunt hg hG hold hb _).at d5
  have hb5 : boxes wg c.w.heap.size (.func (.func 72) #[mv] #[]) c5.w := by
    rw [hw5]
    constructor
    · show (World.setCell _ _ _).heap[_]? = _
      rw [heap_setCell_other _ _ _ _ (show c.w.heap.size ≠ wg by omega)]
      exact hbx
    · show (World.setCell _ _ _).heap[_]? = _
      rw [heap_setCell_other _ _ _ _ (show c.w.heap.size + 1 ≠ wg by omega)]
      exact hby
  refine (tick_core (wg := wg) (b1 := c.w.heap.size) hM5 (by rw [hw5]; exact hat.set_st KK) hb5 (Nat.ne_of_lt hlt) (Nat.ne_of_lt (Nat.lt_succ_of_lt hlt)) (hGb _ (Nat.le_refl _)) (hGb _ (Nat.le_succ _)) hgr hR hC).mono ?_
  rintro c6 ⟨w', h1, h2, h3⟩
  exact ⟨_, w', h1, h2, h3⟩
end Go.Proofs.YtdianedehhecoaaGreatDoor.Co

/- Host.Tick of one match, beside leavers. -/
namespace Go.Proofs.YtdianedehhecoaaGreatDoor.Co
variable [Loops]
set_option linter.unusedSectionVars false
open Go.Conc (G QuitsD)
open Go.RowKit
set_option maxRecDepth 20000
set_option linter.unusedVariables false
set_option linter.unusedSimpArgs false
/-- the same but for what is drawn -/
def like (u w : World) : Prop := u.heap = w.heap ∧ u.os = w.os ∧ u.output = w.output
theorem Stands.like {P : Two} {fr : Frame} {cs : List Frame} {w u : World} {c : Conf} (h : Stands P fr cs u c) (hl : like u w) : Stands P fr cs w c := by
  obtain ⟨Γ, h1, h2, h3⟩ := h
  exact ⟨Γ, h1, h2.like hl.1 hl.2.1 hl.2.2, h3⟩
/-- a piece that is walked alone, to one end -/
theorem lone_piece {P : Two} (hF : ∀ Γ, Rdy Γ P) {x : Code} {a a1 : Act} {w w1 : World} (h : ∀ t d, x.wp P.s (fun e a' w' => e = .normal ∧ a' = a1 ∧ like w' w1) a (re w t d)) {b : Frame} {k : List Item} {cs : List Frame} {c : Conf} (hs : Stands P (b.at a (.code x :: k)) cs w c) : Leads P.g c (Stands P (b.at a1 k) cs w1) := by
  refine (WB.of_wp hF (fun e a w h => .inl h.1) h b k cs c hs).mono ?_
  rintro c' ⟨e, a', w', ⟨t, d, rfl, rfl, hl⟩, harr⟩
  exact Stands.like harr hl
noncomputable def p0 : Code := sq1 c34
noncomputable def p1 : Code := sq1 (sq2 c34)
noncomputable def p2 : Code := sq1 (sq2 (sq2 c34))
noncomputable def p4 : Code := sq1 (sq2 (sq2 (sq2 c34)))
noncomputable def p5 : Code := sq1 l34
noncomputable def p6 : Code := sq1 x34
noncomputable def pc : Code := sq1 (sq2 x34)
noncomputable def p7 : Code := sq1 (blk (sq1 (sq2 (sq2 x34))))
theorem c34_eq : c34 = .seq p0 (.seq p1 (.seq p2 (.seq p4 (.seq l34 e34)))) := by kernel_rfl
theorem l34_eq : l34 = .seq p5 (.block 0 (.loop x34)) := by kernel_rfl
theorem x34_eq : x34 = .seq p6 (.seq pc (.seq (.block 1 (.seq p7 r8)) r9)) := by kernel_rfl
theorem r8_eq : r8 = .region 8 ops8 false := by kernel_rfl
theorem e34_eq : e34 = .seq (.region 10 ops10 false) (sq2 e34) := by kernel_rfl
/-- the slots of Host.Tick -/
def ta (h ms : Value) (t4 t5 t6 t7 t9 t10 t11 t12 t13 t14 t15 t16 t17 t18 t19 t20 t21 t22 t23 t24 t25 : Value) : Act :=
  ⟨#[h, ms, undef, undef, t4, t5, t6, t7, undef, t9, t10, t11, t12, t13, t14, t15, t16, t17, t18, t19, t20, t21, t22, t23, t24, t25, undef, undef, undef], []⟩
/-- operations ahead of one at which we stop, walked alone -/
theorem pre_stands {P : Two} (hF : ∀ Γ, Rdy Γ P) {ops : Array Oper} {pre rest : List Nat} {a a1 : Act} {w w1 : World} (h : ∀ t d, wpOps P.s ops (fun e a' w' => e = .normal ∧ a' = a1 ∧ like w' w1) pre a (re w t d)) {b : Frame} {k : List Item} {cs : List Frame} {c : Conf} (hs : Stands P (b.at a (.inRegion ops (pre ++ rest) :: k)) cs w c) : Leads P.g c (Stands P (b.at a1 (.inRegion ops rest :: k)) cs w1) := by
  obtain ⟨Γ, hM, hg, hok⟩ := hs
  have hke : b.kind ≠ .early := by
    have := hok.kind
    intro e
    rcases this with h | h <;> (simp only [Frame.at, e] at h; cases h)
  have ht : Tree P (fun fr w => ∃ t d, fr = b.at a1 (.inRegion ops rest :: k) ∧ like (re w t d) w1) (b.at a (.inRegion ops (pre ++ rest) :: k)) [] w := by
    refine tree_of_runs (Fin0 := fun fr w => fr = b.at a1 (.inRegion ops rest :: k) ∧ like w w1) (hF Γ).own hg hok (fun y hy => by cases hy) fun t d => ?_
    obtain ⟨a', w', ⟨rfl, q⟩, n, hn⟩ := pre_ops (b := b) (k := k) (cs := [doom P]) (rest := rest) (K := fun a' w' => a' = a1 ∧ like w' w1) hke pre a (re w t d) (h t d)
    exact ⟨n, _, w', hn, rfl, q⟩
  refine (tree_leads (mainTeam Γ P) (hF Γ).fit ((hF Γ).block _) (fun fr w ⟨_, _, hx, _⟩ ⟨ch, hp⟩ => by rw [hx] at hp; cases hp) cs ht c hM hg hok (fun y hy => by cases hy)).mono ?_
  rintro c1 ⟨fr', w', r1, r2, ⟨t, d, rfl, hl⟩, r5⟩
  exact Stands.like ⟨Γ, r1, r5, r2⟩ hl
/-- a function by its body, from its own frame -/
theorem CB.of_base {P : Two} (hF : ∀ Γ, Rdy Γ P) {f : FuncId} {fn : Func} {x : Code} {args : Array Value} {w : World} {R : Value → World → Prop} (hfn : P.fg[f]? = some fn) (hs : P.fs[f]? = P.fg[f]?) (hb : fn.body = some x)
    (h : ∀ cs c, Stands P ((Go.Conc.base f).at { tmps := args ++ Array.replicate (fn.ntmps - args.size) undef, defers := [] } [.code x]) cs w c → Leads P.g c fun c' => ∃ a w' todo v, a.defers = [] ∧ (∃ t d, (results fn a.tmps).run P.s (re w' t d) = .ok v (re w' t d)) ∧ R v w' ∧ Stands P { (Go.Conc.base f).at a todo with mode := .returning } cs w' c') : CB P f args w R := by
  rintro c0 cs0 c h0 ⟨Γ, hM, hg⟩
  have hok := enter_ok (hF Γ).fit f args .normal (.inl rfl) hs
  rw [Go.Conc.enter_at args (show P.g.funcs[f]? = some fn from hfn) hb] at hM hok
  refine (h (c0 :: cs0) c ⟨Γ, hM, hg, hok⟩).trans ?_
  rintro c1 ⟨a', w', todo, v, hd, ⟨t, d, hr⟩, hR, ⟨Γ1, m1, g1, ok1⟩⟩
  have hl : ∃ t d, ({ (Go.Conc.base f).at a' todo with mode := .returning } : Frame).leaving P.s (re w' t d) (.returned v) := ⟨t, d, rfl, hd, rfl, fn, hs.trans hfn, hr⟩
  exact (leave_leads (mainTeam Γ1 P) ok1 hl c1 m1 g1).mono fun c2 ⟨s1, s2⟩ => ⟨v, w', hR, Γ1, s1, s2, okF_finish' h0 v⟩
theorem okF_act {P : Two} {b : Frame} {a a' : Act} {k k' : List Item} (h : okF P (b.at a k)) (hd : a'.defers = a.defers) (hk : ∀ i ∈ k', okItem P.g i = true) : okF P (b.at a' k') := ⟨h.same, hk, by have := h.defers; simp only [Frame.at] at this ⊢; rw [hd]; exact this, h.round, h.kind, fun ch e => by cases e⟩
theorem lone_some {P : Two} (hF : ∀ Γ, Rdy Γ P) {x : Code} {a : Act} {w : World} {K : Act → World → Prop} (h : ∀ t d, x.wp P.s (fun e a' w' => e = .normal ∧ K a' w') a (re w t d)) {b : Frame} {k : List Item} {cs : List Frame} {c : Conf} (hs : Stands P (b.at a (.code x :: k)) cs w c) : Leads P.g c fun c' => ∃ a1 w1, (∃ t d, K a1 (re w1 t d)) ∧ Stands P (b.at a1 k) cs w1 c' := by
  refine (WB.of_wp hF (fun e a w h => .inl h.1) h b k cs c hs).mono ?_
  rintro c' ⟨e, a', w', ⟨t, d, rfl, hK⟩, harr⟩
  exact ⟨a', w', ⟨t, d, hK⟩, harr⟩
section
variable {h ms : Value} {w w1 : World} {cb cap ma wg : Nat}
abbrev uu : Value := undef
theorem wpOps_val {P : Program} {ops : Array Oper} {Q : Exit → Act → World → Prop} {i : Nat} {rest : List Nat} {a : Act} {w w' : World} {o : Oper} {v : Value} (ho : ops[i]? = some o) (hg : o.guard = none) (hr : (execOp a.eval o).run P w = .ok (.value v) w') (h : wpOps P ops Q rest (a.put o.dst v) w') : wpOps P ops Q (i :: rest) a w := by
  rw [wpOps_cons]
  unfold wpOp
  rw [ho]
  dsimp only
  rw [if_pos (by unfold Region.wanted; rw [hg])]
  refine Or.inl ?_
  unfold Oper.wp
  rw [hr]
  exact h
theorem w0 (t : Nat → Question → Nat) (d : Nat) : p0.wp PP.s (fun e a' w' => e = .normal ∧ a' = ta h ms (.int .i64 0) uu uu uu uu uu uu uu uu uu uu uu uu uu uu uu uu uu uu uu uu ∧ like w' w) (ta h ms uu uu uu uu uu uu uu uu uu uu uu uu uu uu uu uu uu uu uu uu uu) (re w t d) := by
  show Code.wp Pz.prog p0 _ _ _
  simp only [p0, sq1, sq2, c34, Tryz.f34, Option.getD, ta]
  go_wp2
  exact ⟨rfl, rfl, rfl⟩
abbrev tp (ch : Value) : Value := .tuple #[ch, .bool true]
theorem w1' {C : Value → World → Prop} (hC : ∀ t d, Calls Pz.prog 70 #[h, ms] (re w t d) fun e w' => ∃ ch, e = .returned (tp ch) ∧ C ch w') (t : Nat → Question → Nat) (d : Nat) : p1.wp PP.s (fun e a' w' => e = .normal ∧ ∃ ch, a' = ta h ms (.int .i64 0) ch (.bool true) uu uu (tp ch) h ms (tp ch) ch (.bool true) uu uu uu uu uu uu uu uu uu uu ∧ C ch w') (ta h ms (.int .i64 0) uu uu uu uu uu uu uu uu uu uu uu uu uu uu uu uu uu uu uu uu) (re w t d) := by
  show Code.wp Pz.prog p1 _ _ _
  have HC := (show Hid _ from hC t d)
  clear hC
  generalize re w t d = W at *
  simp only [p1, sq1, sq2, c34, Tryz.f34, Option.getD, ta]
  go_wp2_with (first | (go_at_call 70; refine Calls.mono HC.out ?_; rintro e w' ⟨ch, rfl, hq⟩))
  exact hq
theorem w2' {ch : Value} (t : Nat → Question → Nat) (d : Nat) : p2.wp PP.s (fun e a' w' => e = .normal ∧ a' = ta h ms (.int .i64 0) ch (.bool true) uu uu (tp ch) h ms (tp ch) ch (.bool true) (.bool true) (.bool false) uu uu uu uu uu uu uu uu ∧ like w' w) (ta h ms (.int .i64 0) ch (.bool true) uu uu (tp ch) h ms (tp ch) ch (.bool true) uu uu uu uu uu uu uu uu uu uu) (re w t d) := by
  show Code.wp Pz.prog p2 _ _ _
  simp only [p2, sq1, sq2, c34, Tryz.f34, Option.getD, ta]
  go_wp2
  exact ⟨rfl, rfl, rfl⟩
abbrev pW (wg : Nat) : Value := .pointer (some ⟨wg, 0, none⟩)
abbrev gCells : Obj := .cells #[.int .u64 0, .int .u32 0] 146 (0, 0)
theorem w4' {ch : Value} (t : Nat → Question → Nat) (d : Nat) : p4.wp PP.s (fun e a' w' => e = .normal ∧ a' = ta h ms (.int .i64 0) ch (.bool true) (pW w.heap.size) uu (tp ch) h ms (tp ch) ch (.bool true) (.bool true) (.bool false) uu uu uu uu uu uu uu uu ∧ like w' (w.alloc gCells)) (ta h ms (.int .i64 0) ch (.bool true) uu uu (tp ch) h ms (tp ch) ch (.bool true) (.bool true) (.bool false) uu uu uu uu uu uu uu uu) (re w t d) := by
  show Code.wp Pz.prog p4 _ _ _
  simp only [p4, sq1, sq2, c34, Tryz.f34, Option.getD, ta]
  go_wp2
  exact ⟨rfl, rfl, rfl, rfl⟩
abbrev sl (cb cap : Nat) : Value := .slice (some ⟨cb, 0, none⟩) 1 cap
theorem w5' (t : Nat → Question → Nat) (d : Nat) : p5.wp PP.s (fun e a' w' => e = .normal ∧ a' = ta h ms (.int .i64 0) (sl cb cap) (.bool true) (pW wg) uu (tp (sl cb cap)) h ms (tp (sl cb cap)) (sl cb cap) (.bool true) (.bool true) (.bool false) (sl cb cap) (.int .i64 1) (.int .i64 0) uu uu uu uu uu ∧ like w' w) (ta h ms (.int .i64 0) (sl cb cap) (.bool true) (pW wg) uu (tp (sl cb cap)) h ms (tp (sl cb cap)) (sl cb cap) (.bool true) (.bool true) (.bool false) uu uu uu uu uu uu uu uu) (re w t d) := by
  show Code.wp Pz.prog p5 _ _ _
  simp only [p5, l34, sq1, sq2, c34, Tryz.f34, Option.getD, ta]
  go_wp2
  exact ⟨rfl, rfl, rfl⟩
theorem w6' (t : Nat → Question → Nat) (d : Nat) : p6.wp PP.s (fun e a' w' => e = .normal ∧ a' = ta h ms (.int .i64 0) (sl cb cap) (.bool true) (pW wg) uu (tp (sl cb cap)) h ms (tp (sl cb cap)) (sl cb cap) (.bool true) (.bool true) (.bool false) (sl cb cap) (.int .i64 1) (.int .i64 0) (.bool true) uu uu uu uu ∧ like w' w) (ta h ms (.int .i64 0) (sl cb cap) (.bool true) (pW wg) uu (tp (sl cb cap)) h ms (tp (sl cb cap)) (sl cb cap) (.bool true) (.bool true) (.bool false) (sl cb cap) (.int .i64 1) (.int .i64 0) uu uu uu uu uu) (re w t d) := by
  show Code.wp Pz.prog p6 _ _ _
  simp only [p6, x34, l34, lop, blk, sq1, sq2, c34, Tryz.f34, Option.getD, ta]
  go_wp2
  exact ⟨rfl, rfl, rfl⟩
theorem wc' (t : Nat → Question → Nat) (d : Nat) : pc.wp PP.s (fun e a' w' => e = .normal ∧ a' = ta h ms (.int .i64 0) (sl cb cap) (.bool true) (pW wg) uu (tp (sl cb cap)) h ms (tp (sl cb cap)) (sl cb cap) (.bool true) (.bool true) (.bool false) (sl cb cap) (.int .i64 1) (.int .i64 0) (.bool true) uu uu uu uu ∧ like w' w) (ta h ms (.int .i64 0) (sl cb cap) (.bool true) (pW wg) uu (tp (sl cb cap)) h ms (tp (sl cb cap)) (sl cb cap) (.bool true) (.bool true) (.bool false) (sl cb cap) (.int .i64 1) (.int .i64 0) (.bool true) uu uu uu uu) (re w t d) := by
  show Code.wp Pz.prog pc _ _ _
  simp only [pc, x34, l34, lop, blk, sq1, sq2, c34, Tryz.f34, Option.getD, ta]
  go_wp2
  exact ⟨rfl, rfl, rfl⟩
theorem w7' (hm : w.cell? ⟨cb, 0, none⟩ = some (pW ma)) (t : Nat → Question → Nat) (d : Nat) : p7.wp PP.s (fun e a' w' => e = .normal ∧ a' = ta h ms (.int .i64 0) (sl cb cap) (.bool true) (pW wg) (pW ma) (tp (sl cb cap)) h ms (tp (sl cb cap)) (sl cb cap) (.bool true) (.bool true) (.bool false) (sl cb cap) (.int .i64 1) (.int .i64 0) (.bool true) (pW cb) (pW ma) uu uu ∧ like w' w) (ta h ms (.int .i64 0) (sl cb cap) (.bool true) (pW wg) uu (tp (sl cb cap)) h ms (tp (sl cb cap)) (sl cb cap) (.bool true) (.bool true) (.bool false) (sl cb cap) (.int .i64 1) (.int .i64 0) (.bool true) uu uu uu uu) (re w t d) := by
  show Code.wp Pz.prog p7 _ _ _
  have hm' : (re w t d).cell? ⟨cb, 0, none⟩ = some (pW ma) := hm
  have hl : like (re w t d) w := ⟨rfl, rfl, rfl⟩
  generalize re w t d = W at *
  simp only [p7, x34, l34, lop, blk, sq1, sq2, c34, Tryz.f34, Option.getD, ta]
  go_wp2
theorem w8' (t : Nat → Question → Nat) (d : Nat) : wpOps PP.s ops8 (fun e a' w' => e = .normal ∧ a' = ta h ms (.int .i64 0) (sl cb cap) (.bool true) (pW wg) (pW ma) (tp (sl cb cap)) h ms (tp (sl cb cap)) (sl cb cap) (.bool true) (.bool true) (.bool false) (sl cb cap) (.int .i64 1) (.int .i64 0) (.bool true) (pW cb) (pW ma) (pW ma) (.func (.func 72) #[pW ma] #[]) ∧ like w' w) [0, 1] (ta h ms (.int .i64 0) (sl cb cap) (.bool true) (pW wg) (pW ma) (tp (sl cb cap)) h ms (tp (sl cb cap)) (sl cb cap) (.bool true) (.bool true) (.bool false) (sl cb cap) (.int .i64 1) (.int .i64 0) (.bool true) (pW cb) (pW ma) uu uu) (re w t d) := by
  show wpOps Pz.prog ops8 _ _ _ _
  have o0 : ops8[0]? = some { dst := some 24, op := Op.move (.tmp 9), type := 85, pos := "host.go:86", after := #[], guard := none } := by kernel_rfl
  have o1 : ops8[1]? = some { dst := some 25, op := Op.makeFunc (Fn.func 72) #[.tmp 24] #[], type := 1, pos := "host.go:86", after := #[{ on := 0, ground := Ground.data }], guard := none } := by kernel_rfl
  refine wpOps_val o0 rfl (v := pW ma) (w' := re w t d) (by simp [execOp, ta, Act.eval]) ?_
  refine wpOps_val o1 rfl (v := .func (.func 72) #[pW ma] #[]) (w' := re w t d) (by simp [execOp, ta, Act.eval, Act.put, Instr.makeFunc]) ?_
  exact ⟨rfl, by simp [ta, Act.put], rfl, rfl, rfl⟩
end
end Go.Proofs.YtdianedehhecoaaGreatDoor.Co

/- Host.Tick of one match, beside leavers: the whole. -/
namespace Go.Proofs.YtdianedehhecoaaGreatDoor.Co
variable [Loops]
set_option linter.unusedSectionVars false
open Go.Conc (G QuitsD)
open Go.RowKit
set_option maxRecDepth 20000
set_option linter.unusedVariables false
set_option linter.unusedSimpArgs false
section
variable {P : Two} {b : Frame} {a : Act} {k : List Item} {cs : List Frame} {w : World} {c : Conf}
theorem Stands.seq {x y z : Code} (e : x = .seq y z) (hs : Stands P (b.at a (.code x :: k)) cs w c) : Leads P.g c (Stands P (b.at a (.code y :: .code z :: k)) cs w) := by
  subst e
  have hok := hs.ok
  have hxy := hok.todo (.code (.seq y z)) (by simp [Frame.at])
  simp only [okItem, okC, Bool.and_eq_true] at hxy
  refine hs.step (fun W => Go.Conc.stepG_seq) (okF_at hok fun i hi => ?_)
  rcases List.mem_cons.1 hi with rfl | hi
  · exact hxy.1
  · rcases List.mem_cons.1 hi with rfl | hi
    · exact hxy.2
    · exact hok.todo i (by simp [Frame.at, hi])
theorem Stands.block {id : Nat} {x : Code} (hs : Stands P (b.at a (.code (.block id x) :: k)) cs w c) : Leads P.g c (Stands P (b.at a (.code x :: .inBlock id :: k)) cs w) := by
  have hok := hs.ok
  have hx := hok.todo (.code (.block id x)) (by simp [Frame.at])
  refine hs.step (fun W => Go.Conc.stepG_block) (okF_at hok fun i hi => ?_)
  rcases List.mem_cons.1 hi with rfl | hi
  · exact hx
  · rcases List.mem_cons.1 hi with rfl | hi
    · rfl
    · exact hok.todo i (by simp [Frame.at, hi])
theorem Stands.loop {x : Code} (hs : Stands P (b.at a (.code (.loop x) :: k)) cs w c) : Leads P.g c (Stands P (b.at a (.code x :: .inLoop x :: k)) cs w) := by
  have hok := hs.ok
  have hx := hok.todo (.code (.loop x)) (by simp [Frame.at])
  refine hs.step (fun W => Go.Conc.stepG_loop) (okF_at hok fun i hi => ?_)
  rcases List.mem_cons.1 hi with rfl | hi
  · exact hx
  · rcases List.mem_cons.1 hi with rfl | hi
    · exact hx
    · exact hok.todo i (by simp [Frame.at, hi])
theorem Stands.region {x : Code} {id : Nat} {ops : Array Oper} (e : x = .region id ops false) (hs : Stands P (b.at a (.code x :: k)) cs w c) : Leads P.g c (Stands P (b.at a (.inRegion ops (List.range ops.size) :: k)) cs w) := by
  subst e
  have hok := hs.ok
  have hx := hok.todo (.code (.region id ops false)) (by simp [Frame.at])
  refine hs.step (fun W => Go.Conc.stepG_region) (okF_at hok fun i hi => ?_)
  rcases List.mem_cons.1 hi with rfl | hi
  · exact hx
  · exact hok.todo i (by simp [Frame.at, hi])
end
theorem sz8 : List.range ops8.size = [0, 1] ++ [2] := by kernel_rfl
theorem f34_fn : PP.fg[34]? = some Tryz.f34 := by kernel_rfl
theorem f34_same : PP.fs[34]? = PP.fg[34]? := by kernel_rfl
theorem f34_body : Tryz.f34.body = some c34 := by kernel_rfl
theorem a34 (h ms : Value) : ({ tmps := #[h, ms] ++ Array.replicate (Tryz.f34.ntmps - (#[h, ms] : Array Value).size) undef, defers := [] } : Act) = ta h ms uu uu uu uu uu uu uu uu uu uu uu uu uu uu uu uu uu uu uu uu uu := by kernel_rfl
/-- the slots of Host.Tick behind group.Wait -/
noncomputable def aZ (h ms ch m ad f : Value) (wg : Nat) : Act := ⟨tm h ms ch m ad f wg (.int .i64 1) (.bool false) (.tuple #[]) (.int .i64 1) (.tuple #[]), []⟩
theorem mZ_eq (cs : List Frame) (h ms ch m ad f : Value) (wg : Nat) : mZ cs h ms ch m ad f wg = G ((Go.Conc.base 34).at (aZ h ms ch m ad f wg) (.inRegion ops10 [] :: .code (sq2 e34) :: [])) cs := by kernel_rfl
theorem host8_eq (h ms ch m ad f : Value) (wg : Nat) : host8 h ms ch m ad f wg = (Go.Conc.base 34).at (ta h ms (.int .i64 0) ch (.bool true) (pW wg) m (tp ch) h ms (tp ch) ch (.bool true) (.bool true) (.bool false) ch (.int .i64 1) (.int .i64 0) (.bool true) ad m m f) (.inRegion ops8 [2] :: .inBlock 1 :: .code r9 :: .inLoop x34 :: .inBlock 0 :: .code e34 :: []) := by kernel_rfl
theorem w11 {h ms ch m ad f : Value} {wg : Nat} {w : World} (t : Nat → Question → Nat) (d : Nat) : (sq2 e34).wp PP.s (fun e a' w' => e = .ret ∧ a' = aZ h ms ch m ad f wg ∧ like w' w) (aZ h ms ch m ad f wg) (re w t d) := by
  show Code.wp Pz.prog (sq2 e34) _ _ _
  simp only [e34, sq2, c34, Tryz.f34, Option.getD, aZ, tm]
  go_wp2
  exact ⟨rfl, rfl, rfl⟩
theorem res34 {h ms ch m ad f : Value} {wg : Nat} (w : World) : (results Tryz.f34 (aZ h ms ch m ad f wg).tmps).run PP.s w = .ok (.int .i64 0) w := by kernel_rfl
/-- HOST.TICK OF ONE MATCH -/
theorem host_tick {h ms : Value} {w : World} {C : Value → World → Prop} {ma : Nat} {R : World → (Nat → Question → Nat) → Nat → Ending → World → Prop}
    (hC70 : ∀ t d, Calls Pz.prog 70 #[h, ms] (re w t d) fun e w' => ∃ ch, e = .returned (tp ch) ∧ C ch w') (hlike : ∀ ch u u', C ch u → like u u' → C ch u') (hCs : ∀ ch u, C ch u → ∃ cb cap, ch = sl cb cap ∧ u.cell? ⟨cb, 0, none⟩ = some (pW ma) ∧ cb < u.heap.size)
    (hR : ∀ ch u, C ch u → ∀ t d e w', R u t d e w' → e = .returned (.tuple #[])) (hC72 : ∀ ch u, C ch u → ∀ t d, Calls PP.s 72 #[pW ma] (re (haunt (u.alloc gCells) u.heap.size) t d) (R u t d)) :
    CB PP 34 #[h, ms] w fun v w' => v = .int .i64 0 ∧ ∃ ch u, C ch u ∧ ∃ t d t' d', R u t d (.returned (.tuple #[])) (re w' t' d') := by
  refine CB.of_base PP_rdy f34_fn f34_same f34_body fun cs c hS => ?_
  rw [a34] at hS
  refine (hS.seq c34_eq).trans fun c1 hS => ?_
  refine (lone_piece PP_rdy w0 hS).trans fun c2 hS => ?_
  refine (hS.seq rfl).trans fun c3 hS => ?_
  refine (lone_some PP_rdy (w1' hC70) hS).trans ?_
  rintro c4 ⟨_, u, ⟨t0, d0, ch, rfl, hCu⟩, hS⟩
  have hCu := hlike ch _ u hCu ⟨rfl, rfl, rfl⟩
  obtain ⟨cb, cap, rfl, hcell, hlt⟩ := hCs ch u hCu
  have hszu : Loops.old ≤ u.heap.size := by obtain ⟨_, _, hgu, _⟩ := id hS; exact hgu.grew.1
  refine (hS.seq rfl).trans fun c5 hS => ?_
  refine (lone_piece PP_rdy w2' hS).trans fun c6 hS => ?_
  refine (hS.seq rfl).trans fun c7 hS => ?_
  refine (lone_piece PP_rdy w4' hS).trans fun c8 hS => ?_
  refine (hS.seq rfl).trans fun c9 hS => ?_
  refine (hS.seq l34_eq).trans fun c10 hS => ?_
  refine (lone_piece PP_rdy w5' hS).trans fun c11 hS => ?_
  refine hS.block.trans fun c12 hS => ?_
  refine hS.loop.trans fun c13 hS => ?_
  refine (hS.seq x34_eq).trans fun c14 hS => ?_
  refine (lone_piece PP_rdy w6' hS).trans fun c15 hS => ?_
  refine (hS.seq rfl).trans fun c16 hS => ?_
  refine (lone_piece PP_rdy wc' hS).trans fun c17 hS => ?_
  refine (hS.seq rfl).trans fun c18 hS => ?_
  refine hS.block.trans fun c19 hS => ?_
  refine (hS.seq rfl).trans fun c20 hS => ?_
  have hcell2 : (u.alloc gCells).cell? ⟨cb, 0, none⟩ = some (pW ma) := by
    have : (u.alloc gCells).heap[cb]? = u.heap[cb]? := by
      show (u.heap.push _)[cb]? = _
      rw [Array.getElem?_push, if_neg (by omega)]
    simp only [World.cell?, this] at hcell ⊢
    exact hcell
  refine (lone_piece PP_rdy (w7' hcell2) hS).trans fun c21 hS => ?_
  refine (hS.region r8_eq).trans fun c22 hS => ?_
  rw [sz8] at hS
  refine (pre_stands PP_rdy w8' hS).trans fun c23 hS => ?_
  have hok := hS.ok
  obtain ⟨Γ, hM, hg, _⟩ := hS
  rw [← host8_eq] at hM
  have hw : (u.alloc gCells).heap[u.heap.size]? = some gCells := by
    show (u.heap.push _)[u.heap.size]? = _
    rw [Array.getElem?_push, if_pos rfl]
  have hG : ¬ Γ u.heap.size := fun hx => by
    obtain ⟨_, _, _, e1, _⟩ := hg.ghost _ hx
    rw [hw] at e1
    cases e1
  have hold : Loops.old ≤ u.heap.size := by
    refine Classical.byContradiction fun hno => ?_
    exact hno hszu
  refine (tick_leads hM hg hG hold hw (hR _ _ hCu) (hC72 _ _ hCu)).trans ?_
  rintro c24 ⟨Γ', w', hRR, hM, hg⟩
  rw [mZ_eq] at hM
  have he := hok.todo (.code e34) (by simp [Frame.at])
  rw [e34_eq] at he
  simp only [okItem, okC, Bool.and_eq_true] at he
  have hokZ : okF PP ((Go.Conc.base 34).at (aZ h ms (sl cb cap) (pW ma) (pW cb) (.func (.func 72) #[pW ma] #[]) u.heap.size) (.inRegion ops10 [] :: .code (sq2 e34) :: [])) := okF_act hok rfl fun i hi => by
    rcases List.mem_cons.1 hi with rfl | hi
    · exact he.1
    · rcases List.mem_cons.1 hi with rfl | hi
      · exact he.2
      · cases hi
  have hS : Stands PP _ cs w' c24 := ⟨Γ', hM, hg, hokZ⟩
  refine (hS.step (fr' := (Go.Conc.base 34).at (aZ h ms (sl cb cap) (pW ma) (pW cb) (.func (.func 72) #[pW ma] #[]) u.heap.size) (.code (sq2 e34) :: [])) (fun W => Go.Conc.stepG_region_end) (okF_at hokZ fun i hi => hokZ.todo i (by simp only [Frame.at]; exact List.mem_cons_of_mem _ hi))).trans fun c25 hS => ?_
  refine (WB.of_wp PP_rdy (fun e a w h => .inr (.inl h.1)) w11 _ _ cs c25 hS).mono ?_
  rintro c26 ⟨e, a', w2, ⟨t, d, rfl, rfl, hl⟩, todo, hS⟩
  exact ⟨_, w', todo, .int .i64 0, rfl, ⟨t, d, res34 _⟩, ⟨rfl, _, u, hCu, hRR⟩, Stands.like hS hl⟩
end Go.Proofs.YtdianedehhecoaaGreatDoor.Co

/- From a function's walk beside leavers to one good run, from every start. -/
namespace Go.Proofs.YtdianedehhecoaaGreatDoor.Co
open Go.Conc (G Leavers Deaf Deaf_other crowd solo solo_eq_crowd leavers_one runT_many_ended)
set_option maxRecDepth 20000
set_option linter.unusedVariables false
set_option linter.unusedSimpArgs false
set_option linter.unusedSectionVars false
/-- the loops that a world was left with, and how many blocks it has -/
@[reducible] def loopsOf (W : World) : Loops where
  lo := fun k => match W.heap[k]? with
    | some (.loop l) => some l
    | _ => none
  old := W.heap.size
/-- the world without its loops -/
def maskO : Obj → Obj
  | .loop _ => nix
  | o => o
def calmed (W : World) : World := { W with heap := W.heap.map maskO }
theorem gh_calmed (W : World) : letI := loopsOf W; Gh (fun _ => False) (calmed W) W := by
  letI := loopsOf W
  refine ⟨rfl, rfl, by simp [calmed], fun k _ => ?_, fun k hk => hk.elim, fun k o ho l => ?_, ⟨by show W.heap.size ≤ (W.heap.map maskO).size; simp, fun k hk => hk.elim⟩⟩
  · show alikeO k (W.heap[k]?) ((W.heap.map maskO)[k]?)
    rw [Array.getElem?_map]
    cases hk : W.heap[k]? with
    | none => exact .inl ⟨by show (match W.heap[k]? with | some (.loop l) => some l | _ => none : Option Loop) = none; rw [hk], rfl⟩
    | some o =>
      cases o with
      | loop l => exact .inr ⟨l, by show (match W.heap[k]? with | some (.loop l) => some l | _ => none : Option Loop) = some l; rw [hk], rfl, rfl⟩
      | _ => exact .inl ⟨by show (match W.heap[k]? with | some (.loop l) => some l | _ => none : Option Loop) = none; rw [hk], rfl⟩
  · have ho : (W.heap.map maskO)[k]? = some o := ho
    rw [Array.getElem?_map] at ho
    obtain ⟨o', _, rfl⟩ := Option.map_eq_some_iff.1 ho
    cases o' <;> (intro e; cases e)
section
variable [Loops] {Γ : Nat → Prop} {P : Two}
/-- goroutine 0 returns, and the run ends -/
theorem ends {fr : Frame} {w : World} {v : Value} {c : Conf} (hM : Main Γ P (G fr []) c) (hg : Gh Γ w c.w) (hf : okF P fr) (hni : P.T.inits.idxOf? fr.fn = none) (hl : ∃ t d, fr.leaving P.s (re w t d) (.returned v)) :
    ∃ N last o W' t', runNT P.g (N + 1) c.m c.t = (.ended o W', t') ∧ runN P.g N c.m = .next last ∧ step P.g last = .ended o W' ∧ Go.Conc.Good P.g (fun v' W' => v' = v ∧ Gh Γ w W') last o W' t' := by
  obtain ⟨t, d, hm, hd, hk, fn, hfn, hr⟩ := hl
  have hfn2 : P.g.funcs[fr.fn]? = some fn := hf.same.symm.trans hfn
  obtain ⟨N, c1, hN, hM1, hg1, d1, sl, hst⟩ := main_picked (Γ := Γ) (P := P) (δ := 0) (Y := fun c1 => MainD Γ P 0 (G fr []) c1 ∧ Gh Γ w c1.w ∧ ∃ d sl, stepT P.g c1.m = runT P.g (crowd c1.gs (c1.w.at d) sl) 0) rfl c hM
    (fun c1 d sl h1 ⟨d0, hw⟩ hst => Leads.refl ⟨h1, by rw [hw]; exact hg.at d0, d, sl, hst⟩)
  obtain ⟨b', es, e1, e2, e3, _, _, e4⟩ := kin_still (Kin.results fn fr.tmps) ⟨t, d, hr⟩ (c1.w.at d1) (hg1.at d1)
  have hstep : ∃ ev, stepG P.g true (G fr []) (c1.w.at d1) = .ended (.done v) b' ev ∧ ∀ e ∈ ev, e ∈ es := by
    refine ⟨Go.seen P.g fr.fn es ++ #[], ?_, fun e he => ev_sub2 e he⟩
    unfold stepG G
    simp only [hm]
    unfold unwind
    rw [hd, hm]
    dsimp only
    rw [hfn2]
    dsimp only
    rw [e1]
    dsimp only
    unfold doReturn
    rw [hk]
    dsimp only
    rw [if_neg (by simp), hni]
    rfl
  obtain ⟨ev, hend, hev⟩ := hstep
  have hrunT := runT_many_ended (P := P.g) (sl := sl) (i := 0) hM1.zero (show stepG P.g (0 == 0) (G fr []) (c1.w.at d1) = _ from hend)
  have hsT := hst.trans hrunT
  have hP' := hM1.past.own (fn := (G fr []).frame.fn) (pos := (G fr []).frame.place) (es := ev) (d' := 0) (fun e he => (show mild Γ e from .inl (e3 e (hev e he))).soft) (deaf_shuns (fun e he => e3 e (hev e he)) 0)
  obtain ⟨q, hL⟩ := hM1.leave
  refine ⟨N, c1.m, _, _, _, ?_, ?_, ?_, v, rfl, ⟨rfl, e2⟩, hP'.clean, hP'.over, ⟨fun x hx => ?_, rfl⟩, fun j x hx hj => ?_⟩
  · rw [runNT_add, hN]
    simp only [runNT, hsT]
  · rw [← Go.runNT_fst P.g N c.m c.t, hN]
  · have := Go.stepT_fst P.g c1.m true
    rw [hsT] at this
    exact this.symm
  · obtain ⟨j, hj⟩ := List.mem_iff_getElem?.1 hx
    rw [List.getElem?_drop] at hj
    exact ⟨_, (hL.old (1 + j) x (by omega) (by simpa [crowd, Conf.m] using hj)).leaves⟩
  · have hq := hL.old j x (by omega) hx
    refine ⟨q j, ?_⟩
    have e : (c1.t ++ MemOp.ofEvents 0 (G fr []).frame.fn (G fr []).frame.place ev).deaf j (c1.t ++ MemOp.ofEvents 0 (G fr []).frame.fn (G fr []).frame.place ev).size = Deaf c1.t j :=
      Deaf_other c1.t (g := j) (g' := 0) (by omega) _ (fun op hop => by obtain ⟨e, _, rfl⟩ := Go.Conc.mem_ofEvents hop; rfl)
    rw [e]
    exact hq.hears _
theorem pastD_nil : PastD (fun _ => False) 0 #[] :=
  ⟨fun said => by rintro ⟨i, j, _, ⟨a, b, ha, _⟩, _⟩; simp [Trace.act?] at ha, fun i a ha => by simp [Go.Conc.touchAt, Trace.act?] at ha, fun i g hg => by simp [Trace.g?] at hg, rfl⟩
end
/-- ONE GOOD RUN: a function by its body, from its own frame, from any start -/
theorem good_of_base {P : Two} (W : World) {f : FuncId} {fn : Func} {x : Code} {args : Array Value} {R : Value → World → Prop} (hfn : P.fg[f]? = some fn) (hs : P.fs[f]? = P.fg[f]?) (hb : fn.body = some x) (hni : P.T.inits.idxOf? f = none)
    (hF : letI := loopsOf W; ∀ Γ, Rdy Γ P)
    (h : letI := loopsOf W; ∀ c, Stands P ((Go.Conc.base f).at { tmps := args ++ Array.replicate (fn.ntmps - args.size) undef, defers := [] } [.code x]) [] (calmed W) c → Leads P.g c fun c' => ∃ a w' todo v, a.defers = [] ∧ (∃ t d, (results fn a.tmps).run P.s (re w' t d) = .ok v (re w' t d)) ∧ R v w' ∧ Stands P { (Go.Conc.base f).at a todo with mode := .returning } [] w' c') :
    letI := loopsOf W
    ∃ N last o W' t', runNT P.g (N + 1) (solo (G (Frame.enter P.g f args .normal) []) W) #[] = (.ended o W', t') ∧ runN P.g N (solo (G (Frame.enter P.g f args .normal) []) W) = .next last ∧ step P.g last = .ended o W' ∧ Go.Conc.Good P.g (fun v W' => ∃ Γ w', R v w' ∧ Gh Γ w' W') last o W' t' := by
  letI := loopsOf W
  have hok := enter_ok (hF (fun _ => False)).fit f args .normal (.inl rfl) hs
  have ea := Go.Conc.enter_at args (show P.g.funcs[f]? = some fn from hfn) hb
  have hM : Main (fun _ => False) P (G (Frame.enter P.g f args .normal) []) ⟨#[G (Frame.enter P.g f args .normal) []], W, none, #[]⟩ := ⟨rfl, ⟨_, leavers_one P.g _⟩, pastD_nil⟩
  rw [ea] at hok
  have hS : Stands P ((Go.Conc.base f).at { tmps := args ++ Array.replicate (fn.ntmps - args.size) undef, defers := [] } [.code x]) [] (calmed W) ⟨#[G (Frame.enter P.g f args .normal) []], W, none, #[]⟩ := ⟨_, by rw [← ea]; exact hM, gh_calmed W, hok⟩
  obtain ⟨N1, c1, e1, a, w', todo, v, hd, ⟨t, d, hr⟩, hR, Γ, m1, g1, ok1⟩ := h _ hS
  obtain ⟨N2, last, o, W', t', q1, q2, q3, q4⟩ := ends m1 g1 ok1 hni ⟨t, d, rfl, hd, rfl, fn, hs.trans hfn, hr⟩
  have e1' : runNT P.g N1 (solo (G (Frame.enter P.g f args .normal) []) W) #[] = (.next c1.m, c1.t) := e1
  refine ⟨N1 + N2, last, o, W', t', ?_, ?_, q3, q4.mono fun v' hv => ?_⟩
  · rw [show N1 + N2 + 1 = N1 + (N2 + 1) by omega, runNT_add, e1']
    exact q1
  · rw [← Go.runNT_fst P.g (N1 + N2) _ #[], runNT_add, e1']
    show (runNT P.g N2 c1.m c1.t).1 = _
    rw [Go.runNT_fst]
    exact q2
  · obtain ⟨rfl, hv⟩ := hv
    exact ⟨Γ, w', hR, hv⟩
/-- what stands of the old memory -/
theorem old_kept {W w' W' : World} {Γ : Nat → Prop} (hg : letI := loopsOf W; Gh Γ w' W') (hb : ∀ k, k < W.heap.size → w'.heap[k]? = (calmed W).heap[k]?) : ∀ k, k < W.heap.size → W'.heap[k]? = W.heap[k]? := by
  letI := loopsOf W
  intro k hk
  have hn : ¬ Γ k := fun hx => by
    have : W.heap.size ≤ k := hg.grew.2 k hx
    omega
  have e := hb k hk
  have em : (calmed W).heap[k]? = (W.heap[k]?).map maskO := by simp [calmed]
  rw [em] at e
  rcases hg.same k hn with ⟨en, e1⟩ | ⟨l, el, e1, e2⟩
  · rw [e1, e]
    have en : (match W.heap[k]? with | some (.loop l) => some l | _ => none : Option Loop) = none := en
    cases ho : W.heap[k]? with
    | none => rfl
    | some o =>
      rw [ho] at en
      cases o <;> first | rfl | cases en
  · have el : (match W.heap[k]? with | some (.loop l) => some l | _ => none : Option Loop) = some l := el
    rw [e1]
    cases ho : W.heap[k]? with
    | none => rw [ho] at el; cases el
    | some o =>
      rw [ho] at el
      cases o <;> first | (cases el; done) | (simp only [Option.some.injEq] at el; rw [el])
end Go.Proofs.YtdianedehhecoaaGreatDoor.Co

/- The row of a call that starts goroutines, from one good run from every start. Nothing of the program. -/
namespace Go.Proofs.YtdianedehhecoaaGreatDoor.Co
open Go.Conc Go.ConcM
set_option linter.unusedVariables false
set_option linter.unusedSimpArgs false
section
variable {H : Type} {enc : TypeId × Value → H}
theorem leaving_of_good {a : Assume} {C : Checked} {os : Os} {f : FuncId} {fn : Func} {s : ChangeSpec} {F : Stop.Interp} {conds : List PathCond} {apart fresh handsOn : Bool} {X : World → Array Value → Prop}
    (hX : ∀ (w w' : World) (args : Array Value), w.heap = w'.heap → X w args → X w' args)
    (own : ownKnob C.prog.godebug = none) (started : os.Started) (noInit : C.prog.inits.idxOf? f = none) (hfn : C.prog.funcs[f]? = some fn)
    (witness : ∃ (w : World) (tape : Tape) (i : Input), w.os = os ∧ (w.forCall tape i).Shaped C.prog ∧ i.vars = [] ∧ Input.okWide C.prog (w.forCall tape i) .any w.heap.size f i ∧
      ((s.pre enc C.prog fn conds apart (w.forCall tape i).memory i.args ∧ X (w.forCall tape i).memory i.args) ∧ sizedMet enc C.prog fn (OpenSpec.ofChange s) apart (w.forCall tape i).memory i.args) ∧ a.holds C.prog (lone (Frame.enter C.prog f i.args .normal) [] (w.forCall tape i)))
    (runs : ∀ (W : World) (base : Nat) (args : Array Value) (ds gs : List (DataW H)) (before : List MemPlace),
      (∀ (j : Nat) t v, fn.params[j]? = some t → args[j]? = some v → Value.okWide C.prog W .any base t v) →
      DataW.Whole enc C.prog fn.params.toList s.vars apart W args.toList ds gs before →
      (DataW.weightsEach C.prog (fn.params.toList ++ s.plain.varTypes C.prog) (ds ++ gs)).all (· ≤ reachBytes) = true → X W args →
      ∃ N last o W' t', runNT C.prog (N + 1) (solo (G (Frame.enter C.prog f args .normal) []) W) #[] = (.ended o W', t') ∧ runN C.prog N (solo (G (Frame.enter C.prog f args .normal) []) W) = .next last ∧ step C.prog last = .ended o W' ∧
        Go.Conc.Good C.prog (fun v W' => s.post enc C.prog fn apart fresh handsOn false W args v W' ∧ W'.os = W.os) last o W' t') :
    ReturnsInLeavingWide a C os f .any (fun w args => (s.pre enc C.prog fn conds apart w args ∧ X w args) ∧ sizedMet enc C.prog fn (OpenSpec.ofChange s) apart w args) ((OpenSpec.ofChange s).postWith enc C.prog fn F (outsideKept [.timePasses]) apart fresh handsOn) := fun enter => by
  obtain ⟨w0, t0, i0, a1, a2, a3, a4, a5, a6⟩ := witness
  refine ⟨enter, own, started, ⟨w0, t0, i0, a1, a2, a3, a4, a5, a6, trivial⟩, fun w tape i h => ?_⟩
  obtain ⟨_, _, _, fn', hfn', _, _, _, _, hval⟩ := h.2.2.2.1
  have e : fn' = fn := Option.some.inj (hfn'.symm.trans hfn)
  subst e
  obtain ⟨⟨⟨ds, gs, before, hw, hc⟩, hx⟩, hz⟩ := h.2.2.2.2.1
  have hw' := DataW.Whole.of_heap (w' := w.forCall tape i) (by rfl) hw
  obtain ⟨N, last, o, W', t', h1, h2, h3, v, rfl, ⟨hp, ho⟩, hrace, hover, honly, hear⟩ := runs (w.forCall tape i) w.heap.size i.args ds gs before hval hw' (hz.weights hw) (hX _ _ _ (by rfl) hx)
  have hW : ({ W' with os := (w.forCall tape i).os } : World) = W' := by rw [← ho]
  have hpost := postWith_blind (F := F) (postWith_of_post (F := F) (by rw [hW]; exact hp) (by rw [ho]; exact OsLater.refl _))
  have hend : runN C.prog (N + 1) (solo (G (Frame.enter C.prog f i.args .normal) []) (w.forCall tape i)) = .ended (.done v) W' := by rw [← runNT_fst C.prog (N + 1) _ #[], h1]
  refine ⟨N + 1, v, W', hend, ?_, roomy_placeholder .., hpost, ⟨N, last, h2, h3, ?_⟩, fun _ _ _ => trivial⟩
  · have h1' : runNT C.prog (N + 1) (Machine.entering C.prog w tape f i) #[] = (.ended (.done v) W', t') := h1
    show ¬ Race _ (runNT C.prog (N + 1) (Machine.entering C.prog w tape f i) #[]).2
    rw [h1']
    exact hrace _
  · have h1' : runNT C.prog (N + 1) (Machine.entering C.prog w tape f i) #[] = (.ended (.done v) W', t') := h1
    rw [h1']
    exact ⟨hover, honly, hear⟩
end
end Go.Proofs.YtdianedehhecoaaGreatDoor.Co

/- A function's code, walked alone up to a piece at which we stop. -/
namespace Go.Proofs.YtdianedehhecoaaGreatDoor.Co
variable [Loops]
set_option linter.unusedSectionVars false
open Go.Conc (G)
set_option maxRecDepth 20000
set_option linter.unusedVariables false
set_option linter.unusedSimpArgs false
theorem upto_stands {P : Two} (hF : ∀ Γ, Rdy Γ P) {x rest : Code} {a : Act} {w : World} {K : Act → World → Prop} (h : ∀ t d, Upto P.s x rest K a (re w t d)) {b : Frame} {k : List Item} {cs : List Frame} {c : Conf} (hs : Stands P (b.at a (.code x :: k)) cs w c) :
    Leads P.g c fun c' => ∃ a1 w1, (∃ t d, K a1 (re w1 t d)) ∧ Stands P (b.at a1 (.code rest :: k)) cs w1 c' := by
  obtain ⟨Γ, hM, hg, hok⟩ := hs
  have ht : Tree P (fun fr w => ∃ t d, ∃ a', K a' (re w t d) ∧ fr = b.at a' (.code rest :: k)) (b.at a (.code x :: k)) [] w := by
    refine tree_of_runs (Fin0 := fun fr w => ∃ a', K a' w ∧ fr = b.at a' (.code rest :: k)) (hF Γ).own hg hok (fun y hy => by cases hy) fun t d => ?_
    obtain ⟨a', w', q, n, hn⟩ := h t d b k [doom P]
    exact ⟨n, _, w', hn, a', q, rfl⟩
  refine (tree_leads (mainTeam Γ P) (hF Γ).fit ((hF Γ).block _) (fun fr w ⟨_, _, _, _, hx⟩ ⟨ch, hp⟩ => by rw [hx] at hp; cases hp) cs ht c hM hg hok (fun y hy => by cases hy)).mono ?_
  rintro c1 ⟨fr', w', r1, r2, ⟨t, d, a', q, rfl⟩, r5⟩
  exact ⟨a', w', ⟨t, d, q⟩, Γ, r1, r5, r2⟩
/-- a region that draws its order, up to the last two operations, which come one behind the other -/
theorem WB.draw_two {P : Two} (hF : ∀ Γ, Rdy Γ P) {id n i j : Nat} {ops : Array Oper} {last : Array Bool} {Q : Exit → Act → World → Prop} {K : Act → World → Prop} {a : Act} {w : World} (hm : P.g.follows .mixedOrders = true) (hn : ops.size = n + 2)
    (he : endsUp .any ops last n (Array.replicate ops.size false) = true) (h1 : Region.ready .any ops last = [i]) (h2 : Region.ready .any ops (last.setIfInBounds i true) = [j])
    (hU : ∀ t d, wpUp P.s .any ops K n (Array.replicate ops.size false) a (re w t d)) (hK : ∀ a' w', (∃ t d, K a' (re w' t d)) → WR P ops [i, j] Q a' w') : WB P (.region id ops true) Q a w := by
  refine WB.draw hF fun t => ?_
  have e : Region.schedule (P.g.follows .mixedOrders) ops t = Region.linearise.go .any ops n t (Array.replicate ops.size false) [] ++ [i, j] := by
    simp only [Region.schedule, hm, Bool.true_or, if_true]
    obtain ⟨t1, e1⟩ := go_split n t 2 _ he
    obtain ⟨t2, e2⟩ := go_one (fuel := 1) (t := t1) h1
    obtain ⟨t3, e3⟩ := go_one (fuel := 0) (t := t2) h2
    show Region.linearise.go .any ops ops.size t (Array.replicate ops.size false) [] = _
    rw [hn] at e1 ⊢
    rw [e1, e2, e3]
    rfl
  rw [e]
  exact WR.pre hF (fun t' d => wpUp_sound n t _ a _ (hU t' d)) hK
end Go.Proofs.YtdianedehhecoaaGreatDoor.Co
