/- Host.Tick of a host whose match is a duel in which one gives up. -/
import Derived.Test.YtdianedehhecoaaGreatDoorCoE
import Derived.Test.YtdianedehhecoaaGreatDoorStranges
import Derived.Test.YtdianedehhecoaaGreatDoorHosts
namespace Go.Proofs.YtdianedehhecoaaGreatDoor.Co
variable [Loops]
set_option linter.unusedSectionVars false
open Go.Conc (G)
open Go.RowKit
set_option maxRecDepth 20000
set_option linter.unusedVariables false
set_option linter.unusedSimpArgs false
theorem haunt_old {u : World} {j : Nat} (hj : j < u.heap.size) : (haunt (u.alloc gCells) u.heap.size).heap[j]? = u.heap[j]? := by
  show (((((u.heap.push gCells).setIfInBounds u.heap.size _).push _).push _) : Array Obj)[j]? = _
  rw [Array.getElem?_push, if_neg (by simp; omega), Array.getElem?_push, if_neg (by simp; omega), Array.getElem?_setIfInBounds_ne (by omega), Array.getElem?_push, if_neg (by omega)]
theorem haunt_size {u : World} : (haunt (u.alloc gCells) u.heap.size).heap.size = u.heap.size + 3 := by simp [haunt]
/-- what a tick leaves of the rest -/
structure Left (N : Nat) (W w' : World) : Prop where
  os : w'.os = W.os
  output : w'.output = W.output
  size : W.heap.size ≤ w'.heap.size
  block : ∀ j, j < N → w'.heap[j]? = W.heap[j]?
theorem Left.trans {N : Nat} {a b c : World} (h : Left N a b) (g : Left N b c) : Left N a c := ⟨g.os.trans h.os, g.output.trans h.output, Nat.le_trans h.size g.size, fun j hj => (g.block j hj).trans (h.block j hj)⟩
theorem Left.of {N : Nat} {a b : World} (h : Below N a b) : Left N a b := ⟨h.os, h.output, h.size, h.block⟩
theorem Left.refl (N : Nat) (a : World) : Left N a a := ⟨rfl, rfl, Nat.le_refl _, fun _ _ => rfl⟩
section
variable {W : World} {hbk rb pb : Nat} {sd : Int} {S : RS} {f0 f1 : Bool} {pv : List Value} {N nb cap k : Nat}
theorem tick_son (hk : k < 2) (h : SOn W hbk rb pb sd S f0 (decide (k = 0)) f1 (decide (k = 1)) (.slice none 0 0) pv) (hov : overB S = false) (t0 : 0 ≤ S.turn) (t1 : S.turn < 1000) (hN : N ≤ hbk) (hn : W.cell? ⟨nb, 0, none⟩ = some (.int .i64 0))
    (hd : W.cell? ⟨4, 15, none⟩ = some (.int .u8 4)) (hdl : 4 < N) :
    CB PP 34 #[pW hbk, .slice (some ⟨nb, 0, none⟩) 1 cap] W fun v w' => v = .int .i64 0 ∧ (∃ sv', SOn w' hbk rb pb sd (doF S (gives k)) f0 false f1 false sv' pv) ∧ Left N W w' := by
  obtain ⟨lo, mb, sb, tb, p0, p1, wl, wt, wc, hv, gv, uv, bs, g, n, hs, h1, h2, h3, h4, h5, hD, hR, hP⟩ := h
  refine (host_tick (C := fun ch u => Chosen W mb ch u) (ma := mb) (R := fun u t d e w' => e = .returned (.tuple #[]) ∧ ∃ hv' uv' bs' g' sv', Duel w' 0 lo mb sb tb p0 p1 wl wt wc (doF S (gives k)) hv' gv uv' bs' g' (n + 1) (hs ++ [.string (hash16 (bytesF (doF S (gives k))))]) f0 false f1 false sv' ∧ Below lo (re (haunt (u.alloc gCells) u.heap.size) t d) w') ?_ ?_ ?_ ?_ ?_).mono ?_
  · intro t d
    exact choose_one (w := re W t d) (hR.on rfl rfl) (hD.cells.same rfl) rfl hn
  · rintro ch u u' ⟨cb, cp, e, c1, c2, c3, c4, c5, c6, c7⟩ ⟨l1, l2, l3⟩
    refine ⟨cb, cp, e, ?_, c2, by rw [← l1]; exact c3, by rw [← l1]; exact c4, l2.symm.trans c5, l3.symm.trans c6, fun j hj => by rw [← l1]; exact c7 j hj⟩
    exact (World.cell?_of_block (w := u) (by rw [l1])).trans c1
  · rintro ch u ⟨cb, cp, e, c1, c2, c3, _⟩
    exact ⟨cb, cp, e, c1, c3⟩
  · rintro ch u _ t d e w' ⟨he, _⟩
    exact he
  · rintro ch u ⟨cb, cp, e, c1, c2, c3, c4, c5, c6, c7⟩ t d
    have hold : ∀ j, j < W.heap.size → (re (haunt (u.alloc gCells) u.heap.size) t d).heap[j]? = W.heap[j]? := fun j hj => (haunt_old (u := u) (by omega)).trans (c7 j hj)
    have hz : (re (haunt (u.alloc gCells) u.heap.size) t d).heap.size = u.heap.size + 3 := haunt_size
    exact mtick_duel k hk (hD.on fun j _ hj => hold j hj) (by omega) hov t0 t1 (by omega) ((World.cell?_of_block (w := W) (hold _ (cell_lt hd))).trans hd) (by omega)
  · rintro v w' ⟨rfl, ch, u, ⟨cb, cp, e, c1, c2, c3, c4, c5, c6, c7⟩, t, d, t', d', -, hv', uv', bs', g', sv', hD', hB⟩
    have hold : ∀ j, j < lo → w'.heap[j]? = W.heap[j]? := fun j hj => (hB.block j hj).trans ((haunt_old (u := u) (by omega)).trans (c7 j (by omega)))
    have hz : (re (haunt (u.alloc gCells) u.heap.size) t d).heap.size = u.heap.size + 3 := haunt_size
    have hz2 : (re (haunt (u.alloc gCells) u.heap.size) t d).heap.size ≤ w'.heap.size := hB.size
    refine ⟨rfl, ⟨sv', lo, mb, sb, tb, p0, p1, wl, wt, wc, hv', gv, uv', bs', g', n + 1, _, h1, h2, h3, by omega, by rw [(doF_turn S (gives k)).1]; push_cast; omega, hD'.on fun j _ _ => rfl, hR.on (hold _ h1) (hold _ h2), hP.same (hold _ h3)⟩, hB.os.trans c5, hB.output.trans c6, by omega, fun j hj => hold j (by omega)⟩
end
end Go.Proofs.YtdianedehhecoaaGreatDoor.Co

/- Play.tick of a duel in which one gives up: up to Host.Tick. -/
namespace Go.Proofs.YtdianedehhecoaaGreatDoor.Co
variable [Loops]
set_option linter.unusedSectionVars false
open Go.Conc (G)
open Go.RowKit
set_option maxRecDepth 20000
set_option linter.unusedVariables false
set_option linter.unusedSimpArgs false
noncomputable def c14 : Code := (Tryz.f14.body).getD .skip
def opsOf : Code → Array Oper
  | .region _ ops _ => ops
  | _ => #[]
noncomputable def ops14 : Array Oper := opsOf (sq1 (sq2 c14))
noncomputable def rest14 : Code := sq2 (sq2 c14)
theorem c14_eq : c14 = .seq (sq1 c14) (.seq (.region 1 ops14 true) rest14) := by kernel_rfl
/-- the slots of tick, ahead of Host.Tick -/
def ab (pb : Nat) (t3 t7 t8 t9 t10 t11 t12 t13 t14 t15 t16 : Value) : Act := ⟨#[pW pb, undef, .bool false, t3, undef, undef, undef, t7, t8, t9, t10, t11, t12, t13, t14, t15, t16, undef, undef, undef, undef, undef, undef, undef, undef, undef, undef, undef, undef, undef, undef, undef, undef, undef, undef, undef, undef, undef, undef, undef, undef, undef, undef, undef, undef, undef, undef, undef, undef, undef, undef, undef, undef, undef, undef, undef, undef, undef, undef, undef, undef, undef, undef, undef, undef, undef, undef, undef, undef, undef], []⟩
theorem up2 {P : Program} {ops : Array Oper} {K : Act → World → Prop} {n i j : Nat} {l : Array Bool} {a : Act} {w : World} (hr : Region.ready .any ops l = [i, j]) (hi : wpOp P ops (fun e a w => e = .normal ∧ K a w) i (wpUp P .any ops K n (l.setIfInBounds i true)) a w) (hj : wpOp P ops (fun e a w => e = .normal ∧ K a w) j (wpUp P .any ops K n (l.setIfInBounds j true)) a w) : wpUp P .any ops K (n + 1) l a w := by
  refine ⟨by rw [hr]; simp, fun q hq => ?_⟩
  rw [hr] at hq
  rcases List.mem_cons.1 hq with rfl | hq
  · exact hi
  · obtain rfl : q = j := by simpa using hq
    exact hj
theorem up1 {P : Program} {ops : Array Oper} {K : Act → World → Prop} {n i : Nat} {l : Array Bool} {a : Act} {w : World} (hr : Region.ready .any ops l = [i]) (hi : wpOp P ops (fun e a w => e = .normal ∧ K a w) i (wpUp P .any ops K n (l.setIfInBounds i true)) a w) : wpUp P .any ops K (n + 1) l a w := by
  refine ⟨by rw [hr]; simp, fun q hq => ?_⟩
  rw [hr] at hq
  obtain rfl : q = i := by simpa using hq
  exact hi
theorem wpOp_val {P : Program} {ops : Array Oper} {Q : Exit → Act → World → Prop} {K' : Act → World → Prop} {i : Nat} {a : Act} {w w' : World} {o : Oper} {v : Value} (ho : ops[i]? = some o) (hg : o.guard = none) (hr : (execOp a.eval o).run P w = .ok (.value v) w') (h : K' (a.put o.dst v) w') : wpOp P ops Q i K' a w := by
  unfold wpOp
  rw [ho]
  dsimp only
  rw [if_pos (by unfold Region.wanted; rw [hg])]
  refine .inl ?_
  unfold Oper.wp
  rw [hr]
  exact h
section
variable {pb hbk nb : Nat} {W : World} {Q : Exit → Act → World → Prop} {K' : Act → World → Prop} {t3 t7 t8 t9 t10 t11 t12 t13 t14 t15 t16 : Value}
theorem op14_0 (h : K' (ab pb t3 (pW pb) t8 t9 t10 t11 t12 t13 t14 t15 t16) W) : wpOp Pz.prog ops14 Q 0 K' (ab pb t3 t7 t8 t9 t10 t11 t12 t13 t14 t15 t16) W :=
  wpOp_val (o := { dst := some 7, op := .move (.tmp 0), type := 26, pos := "keeps.go:104", after := #[], guard := none }) (v := (pW pb)) (w' := W) (by kernel_rfl) rfl (by simp only [ab]; go_simp) h
theorem op14_1 (h : K' (ab pb t3 (pW pb) (pW pb) t9 t10 t11 t12 t13 t14 t15 t16) W) : wpOp Pz.prog ops14 Q 1 K' (ab pb t3 (pW pb) t8 t9 t10 t11 t12 t13 t14 t15 t16) W :=
  wpOp_val (o := { dst := some 8, op := .nilCheck (.tmp 7), type := 0, pos := "keeps.go:104", after := #[{ on := 0, ground := .data }], guard := none }) (v := (pW pb)) (w' := W) (by kernel_rfl) rfl (by simp only [ab]; go_simp) h
theorem op14_2 (h : K' (ab pb t3 t7 (pW pb) (pW pb) t10 t11 t12 t13 t14 t15 t16) W) : wpOp Pz.prog ops14 Q 2 K' (ab pb t3 t7 (pW pb) t9 t10 t11 t12 t13 t14 t15 t16) W :=
  wpOp_val (o := { dst := some 9, op := .fieldAddr 37 (.tmp 8) 0, type := 0, pos := "keeps.go:104", after := #[{ on := 1, ground := .data }], guard := none }) (v := (pW pb)) (w' := W) (by kernel_rfl) rfl (by simp only [ab]; go_simp) h
theorem op14_3 (h0 : W.cell? ⟨pb, 0, none⟩ = some (pW hbk)) (h : K' (ab pb t3 t7 t8 (pW pb) (pW hbk) t11 t12 t13 t14 t15 t16) W) : wpOp Pz.prog ops14 Q 3 K' (ab pb t3 t7 t8 (pW pb) t10 t11 t12 t13 t14 t15 t16) W :=
  wpOp_val (o := { dst := some 10, op := .load 33 (.tmp 9), type := 33, pos := "keeps.go:104", after := #[{ on := 2, ground := .data }], guard := none }) (v := (pW hbk)) (w' := W) (by kernel_rfl) rfl (by simp only [ab]; go_simp) h
theorem op14_4 (h : K' (ab pb t3 t7 t8 t9 t10 (pW pb) t12 t13 t14 t15 t16) W) : wpOp Pz.prog ops14 Q 4 K' (ab pb t3 t7 t8 t9 t10 t11 t12 t13 t14 t15 t16) W :=
  wpOp_val (o := { dst := some 11, op := .move (.tmp 0), type := 26, pos := "keeps.go:104", after := #[], guard := none }) (v := (pW pb)) (w' := W) (by kernel_rfl) rfl (by simp only [ab]; go_simp) h
theorem op14_5 (h : K' (ab pb t3 t7 t8 t9 t10 (pW pb) (pW pb) t13 t14 t15 t16) W) : wpOp Pz.prog ops14 Q 5 K' (ab pb t3 t7 t8 t9 t10 (pW pb) t12 t13 t14 t15 t16) W :=
  wpOp_val (o := { dst := some 12, op := .nilCheck (.tmp 11), type := 0, pos := "keeps.go:104", after := #[{ on := 4, ground := .data }], guard := none }) (v := (pW pb)) (w' := W) (by kernel_rfl) rfl (by simp only [ab]; go_simp) h
theorem op14_6 (h : K' (ab pb t3 t7 t8 t9 t10 t11 (pW pb) (.pointer (some ⟨pb, 1, none⟩)) t14 t15 t16) W) : wpOp Pz.prog ops14 Q 6 K' (ab pb t3 t7 t8 t9 t10 t11 (pW pb) t13 t14 t15 t16) W :=
  wpOp_val (o := { dst := some 13, op := .fieldAddr 37 (.tmp 12) 1, type := 0, pos := "keeps.go:104", after := #[{ on := 5, ground := .data }], guard := none }) (v := (.pointer (some ⟨pb, 1, none⟩))) (w' := W) (by kernel_rfl) rfl (by simp only [ab]; go_simp) h
theorem op14_7 (h1 : W.cell? ⟨pb, 1, none⟩ = some (.int .i64 0)) (h : K' (ab pb t3 t7 t8 t9 t10 t11 t12 (.pointer (some ⟨pb, 1, none⟩)) (.int .i64 0) t15 t16) W) : wpOp Pz.prog ops14 Q 7 K' (ab pb t3 t7 t8 t9 t10 t11 t12 (.pointer (some ⟨pb, 1, none⟩)) t14 t15 t16) W :=
  wpOp_val (o := { dst := some 14, op := .load 3 (.tmp 13), type := 3, pos := "keeps.go:104", after := #[{ on := 6, ground := .data }], guard := none }) (v := (.int .i64 0)) (w' := W) (by kernel_rfl) rfl (by simp only [ab]; go_simp) h
theorem op14_8 (h : K' (ab pb t3 t7 t8 t9 t10 t11 t12 t13 (.int .i64 0) (.slice (some ⟨W.heap.size, 0, none⟩) 1 1) t16) (W.alloc (.cells #[.int .i64 0] 3))) : wpOp Pz.prog ops14 Q 8 K' (ab pb t3 t7 t8 t9 t10 t11 t12 t13 (.int .i64 0) t15 t16) W :=
  wpOp_val (o := { dst := some 15, op := .buildSlice 25 1 #[(0, .tmp 14)], type := 25, pos := "keeps.go:104", after := #[{ on := 7, ground := .data }], guard := none }) (v := (.slice (some ⟨W.heap.size, 0, none⟩) 1 1)) (w' := (W.alloc (.cells #[.int .i64 0] 3))) (by kernel_rfl) rfl (by simp only [ab]; go_simp) h

end
section
variable {w : World} {pb hbk : Nat}
theorem up14 (h0 : w.cell? ⟨pb, 0, none⟩ = some (pW hbk)) (h1 : w.cell? ⟨pb, 1, none⟩ = some (.int .i64 0)) (t : Nat → Question → Nat) (d : Nat) :
    wpUp Pz.prog .any ops14 (fun a' w' => a' = ab pb undef (pW pb) (pW pb) (pW pb) (pW hbk) (pW pb) (pW pb) (.pointer (some ⟨pb, 1, none⟩)) (.int .i64 0) (.slice (some ⟨w.heap.size, 0, none⟩) 1 1) undef ∧ like w' (w.alloc (.cells #[.int .i64 0] 3))) 9 (Array.replicate 11 false) (ab pb undef undef undef undef undef undef undef undef undef undef undef) (re w t d) := by
  have h0' : (re w t d).cell? ⟨pb, 0, none⟩ = some (pW hbk) := h0
  have h1' : (re w t d).cell? ⟨pb, 1, none⟩ = some (.int .i64 0) := h1
  have e0 : ∀ (W : World), W.cell? ⟨pb, 0, none⟩ = some (pW hbk) → ∀ o, (W.alloc o).cell? ⟨pb, 0, none⟩ = some (pW hbk) := fun W h o => (World.cell?_alloc_past _ _ _ (cell_lt h)).trans h
  have u45 : wpUp Pz.prog .any ops14 (fun a' w' => a' = ab pb undef (pW pb) (pW pb) (pW pb) (pW hbk) (pW pb) (pW pb) (.pointer (some ⟨pb, 1, none⟩)) (.int .i64 0) (.slice (some ⟨w.heap.size, 0, none⟩) 1 1) undef ∧ like w' (w.alloc (.cells #[.int .i64 0] 3))) 0 #[true, true, true, true, true, true, true, true, true, false, false] (ab pb undef (pW pb) (pW pb) (pW pb) (pW hbk) (pW pb) (pW pb) (.pointer (some ⟨pb, 1, none⟩)) (.int .i64 0) (.slice (some ⟨w.heap.size, 0, none⟩) 1 1) undef) ((re w t d).alloc (.cells #[.int .i64 0] 3)) := ⟨rfl, rfl, rfl, rfl⟩
  have u44 : wpUp Pz.prog .any ops14 (fun a' w' => a' = ab pb undef (pW pb) (pW pb) (pW pb) (pW hbk) (pW pb) (pW pb) (.pointer (some ⟨pb, 1, none⟩)) (.int .i64 0) (.slice (some ⟨w.heap.size, 0, none⟩) 1 1) undef ∧ like w' (w.alloc (.cells #[.int .i64 0] 3))) 1 #[true, true, true, true, true, true, true, true, false, false, false] (ab pb undef (pW pb) (pW pb) (pW pb) (pW hbk) (pW pb) (pW pb) (.pointer (some ⟨pb, 1, none⟩)) (.int .i64 0) undef undef) (re w t d) := up1 (by kernel_rfl) (op14_8 u45)
  have u43 : wpUp Pz.prog .any ops14 (fun a' w' => a' = ab pb undef (pW pb) (pW pb) (pW pb) (pW hbk) (pW pb) (pW pb) (.pointer (some ⟨pb, 1, none⟩)) (.int .i64 0) (.slice (some ⟨w.heap.size, 0, none⟩) 1 1) undef ∧ like w' (w.alloc (.cells #[.int .i64 0] 3))) 2 #[true, true, true, true, true, true, true, false, false, false, false] (ab pb undef (pW pb) (pW pb) (pW pb) (pW hbk) (pW pb) (pW pb) (.pointer (some ⟨pb, 1, none⟩)) undef undef undef) (re w t d) := up1 (by kernel_rfl) (op14_7 h1' u44)
  have u42 : wpUp Pz.prog .any ops14 (fun a' w' => a' = ab pb undef (pW pb) (pW pb) (pW pb) (pW hbk) (pW pb) (pW pb) (.pointer (some ⟨pb, 1, none⟩)) (.int .i64 0) (.slice (some ⟨w.heap.size, 0, none⟩) 1 1) undef ∧ like w' (w.alloc (.cells #[.int .i64 0] 3))) 3 #[true, true, true, true, true, true, false, false, false, false, false] (ab pb undef (pW pb) (pW pb) (pW pb) (pW hbk) (pW pb) (pW pb) undef undef undef undef) (re w t d) := up1 (by kernel_rfl) (op14_6 u43)
  have u41 : wpUp Pz.prog .any ops14 (fun a' w' => a' = ab pb undef (pW pb) (pW pb) (pW pb) (pW hbk) (pW pb) (pW pb) (.pointer (some ⟨pb, 1, none⟩)) (.int .i64 0) (.slice (some ⟨w.heap.size, 0, none⟩) 1 1) undef ∧ like w' (w.alloc (.cells #[.int .i64 0] 3))) 4 #[true, true, true, true, true, false, false, false, false, false, false] (ab pb undef (pW pb) (pW pb) (pW pb) (pW hbk) (pW pb) undef undef undef undef undef) (re w t d) := up1 (by kernel_rfl) (op14_5 u42)
  have u40 : wpUp Pz.prog .any ops14 (fun a' w' => a' = ab pb undef (pW pb) (pW pb) (pW pb) (pW hbk) (pW pb) (pW pb) (.pointer (some ⟨pb, 1, none⟩)) (.int .i64 0) (.slice (some ⟨w.heap.size, 0, none⟩) 1 1) undef ∧ like w' (w.alloc (.cells #[.int .i64 0] 3))) 5 #[true, true, true, true, false, false, false, false, false, false, false] (ab pb undef (pW pb) (pW pb) (pW pb) (pW hbk) undef undef undef undef undef undef) (re w t d) := up1 (by kernel_rfl) (op14_4 u41)
  have u35 : wpUp Pz.prog .any ops14 (fun a' w' => a' = ab pb undef (pW pb) (pW pb) (pW pb) (pW hbk) (pW pb) (pW pb) (.pointer (some ⟨pb, 1, none⟩)) (.int .i64 0) (.slice (some ⟨w.heap.size, 0, none⟩) 1 1) undef ∧ like w' (w.alloc (.cells #[.int .i64 0] 3))) 1 #[true, true, true, false, true, true, true, true, true, false, false] (ab pb undef (pW pb) (pW pb) (pW pb) undef (pW pb) (pW pb) (.pointer (some ⟨pb, 1, none⟩)) (.int .i64 0) (.slice (some ⟨w.heap.size, 0, none⟩) 1 1) undef) ((re w t d).alloc (.cells #[.int .i64 0] 3)) := up1 (by kernel_rfl) (op14_3 (e0 _ h0' _) u45)
  have u34 : wpUp Pz.prog .any ops14 (fun a' w' => a' = ab pb undef (pW pb) (pW pb) (pW pb) (pW hbk) (pW pb) (pW pb) (.pointer (some ⟨pb, 1, none⟩)) (.int .i64 0) (.slice (some ⟨w.heap.size, 0, none⟩) 1 1) undef ∧ like w' (w.alloc (.cells #[.int .i64 0] 3))) 2 #[true, true, true, false, true, true, true, true, false, false, false] (ab pb undef (pW pb) (pW pb) (pW pb) undef (pW pb) (pW pb) (.pointer (some ⟨pb, 1, none⟩)) (.int .i64 0) undef undef) (re w t d) := up2 (by kernel_rfl) (op14_3 h0' u44) (op14_8 u35)
  have u33 : wpUp Pz.prog .any ops14 (fun a' w' => a' = ab pb undef (pW pb) (pW pb) (pW pb) (pW hbk) (pW pb) (pW pb) (.pointer (some ⟨pb, 1, none⟩)) (.int .i64 0) (.slice (some ⟨w.heap.size, 0, none⟩) 1 1) undef ∧ like w' (w.alloc (.cells #[.int .i64 0] 3))) 3 #[true, true, true, false, true, true, true, false, false, false, false] (ab pb undef (pW pb) (pW pb) (pW pb) undef (pW pb) (pW pb) (.pointer (some ⟨pb, 1, none⟩)) undef undef undef) (re w t d) := up2 (by kernel_rfl) (op14_3 h0' u43) (op14_7 h1' u34)
  have u32 : wpUp Pz.prog .any ops14 (fun a' w' => a' = ab pb undef (pW pb) (pW pb) (pW pb) (pW hbk) (pW pb) (pW pb) (.pointer (some ⟨pb, 1, none⟩)) (.int .i64 0) (.slice (some ⟨w.heap.size, 0, none⟩) 1 1) undef ∧ like w' (w.alloc (.cells #[.int .i64 0] 3))) 4 #[true, true, true, false, true, true, false, false, false, false, false] (ab pb undef (pW pb) (pW pb) (pW pb) undef (pW pb) (pW pb) undef undef undef undef) (re w t d) := up2 (by kernel_rfl) (op14_3 h0' u42) (op14_6 u33)
  have u31 : wpUp Pz.prog .any ops14 (fun a' w' => a' = ab pb undef (pW pb) (pW pb) (pW pb) (pW hbk) (pW pb) (pW pb) (.pointer (some ⟨pb, 1, none⟩)) (.int .i64 0) (.slice (some ⟨w.heap.size, 0, none⟩) 1 1) undef ∧ like w' (w.alloc (.cells #[.int .i64 0] 3))) 5 #[true, true, true, false, true, false, false, false, false, false, false] (ab pb undef (pW pb) (pW pb) (pW pb) undef (pW pb) undef undef undef undef undef) (re w t d) := up2 (by kernel_rfl) (op14_3 h0' u41) (op14_5 u32)
  have u30 : wpUp Pz.prog .any ops14 (fun a' w' => a' = ab pb undef (pW pb) (pW pb) (pW pb) (pW hbk) (pW pb) (pW pb) (.pointer (some ⟨pb, 1, none⟩)) (.int .i64 0) (.slice (some ⟨w.heap.size, 0, none⟩) 1 1) undef ∧ like w' (w.alloc (.cells #[.int .i64 0] 3))) 6 #[true, true, true, false, false, false, false, false, false, false, false] (ab pb undef (pW pb) (pW pb) (pW pb) undef undef undef undef undef undef undef) (re w t d) := up2 (by kernel_rfl) (op14_3 h0' u40) (op14_4 u31)
  have u25 : wpUp Pz.prog .any ops14 (fun a' w' => a' = ab pb undef (pW pb) (pW pb) (pW pb) (pW hbk) (pW pb) (pW pb) (.pointer (some ⟨pb, 1, none⟩)) (.int .i64 0) (.slice (some ⟨w.heap.size, 0, none⟩) 1 1) undef ∧ like w' (w.alloc (.cells #[.int .i64 0] 3))) 2 #[true, true, false, false, true, true, true, true, true, false, false] (ab pb undef (pW pb) (pW pb) undef undef (pW pb) (pW pb) (.pointer (some ⟨pb, 1, none⟩)) (.int .i64 0) (.slice (some ⟨w.heap.size, 0, none⟩) 1 1) undef) ((re w t d).alloc (.cells #[.int .i64 0] 3)) := up1 (by kernel_rfl) (op14_2 u35)
  have u24 : wpUp Pz.prog .any ops14 (fun a' w' => a' = ab pb undef (pW pb) (pW pb) (pW pb) (pW hbk) (pW pb) (pW pb) (.pointer (some ⟨pb, 1, none⟩)) (.int .i64 0) (.slice (some ⟨w.heap.size, 0, none⟩) 1 1) undef ∧ like w' (w.alloc (.cells #[.int .i64 0] 3))) 3 #[true, true, false, false, true, true, true, true, false, false, false] (ab pb undef (pW pb) (pW pb) undef undef (pW pb) (pW pb) (.pointer (some ⟨pb, 1, none⟩)) (.int .i64 0) undef undef) (re w t d) := up2 (by kernel_rfl) (op14_2 u34) (op14_8 u25)
  have u23 : wpUp Pz.prog .any ops14 (fun a' w' => a' = ab pb undef (pW pb) (pW pb) (pW pb) (pW hbk) (pW pb) (pW pb) (.pointer (some ⟨pb, 1, none⟩)) (.int .i64 0) (.slice (some ⟨w.heap.size, 0, none⟩) 1 1) undef ∧ like w' (w.alloc (.cells #[.int .i64 0] 3))) 4 #[true, true, false, false, true, true, true, false, false, false, false] (ab pb undef (pW pb) (pW pb) undef undef (pW pb) (pW pb) (.pointer (some ⟨pb, 1, none⟩)) undef undef undef) (re w t d) := up2 (by kernel_rfl) (op14_2 u33) (op14_7 h1' u24)
  have u22 : wpUp Pz.prog .any ops14 (fun a' w' => a' = ab pb undef (pW pb) (pW pb) (pW pb) (pW hbk) (pW pb) (pW pb) (.pointer (some ⟨pb, 1, none⟩)) (.int .i64 0) (.slice (some ⟨w.heap.size, 0, none⟩) 1 1) undef ∧ like w' (w.alloc (.cells #[.int .i64 0] 3))) 5 #[true, true, false, false, true, true, false, false, false, false, false] (ab pb undef (pW pb) (pW pb) undef undef (pW pb) (pW pb) undef undef undef undef) (re w t d) := up2 (by kernel_rfl) (op14_2 u32) (op14_6 u23)
  have u21 : wpUp Pz.prog .any ops14 (fun a' w' => a' = ab pb undef (pW pb) (pW pb) (pW pb) (pW hbk) (pW pb) (pW pb) (.pointer (some ⟨pb, 1, none⟩)) (.int .i64 0) (.slice (some ⟨w.heap.size, 0, none⟩) 1 1) undef ∧ like w' (w.alloc (.cells #[.int .i64 0] 3))) 6 #[true, true, false, false, true, false, false, false, false, false, false] (ab pb undef (pW pb) (pW pb) undef undef (pW pb) undef undef undef undef undef) (re w t d) := up2 (by kernel_rfl) (op14_2 u31) (op14_5 u22)
  have u20 : wpUp Pz.prog .any ops14 (fun a' w' => a' = ab pb undef (pW pb) (pW pb) (pW pb) (pW hbk) (pW pb) (pW pb) (.pointer (some ⟨pb, 1, none⟩)) (.int .i64 0) (.slice (some ⟨w.heap.size, 0, none⟩) 1 1) undef ∧ like w' (w.alloc (.cells #[.int .i64 0] 3))) 7 #[true, true, false, false, false, false, false, false, false, false, false] (ab pb undef (pW pb) (pW pb) undef undef undef undef undef undef undef undef) (re w t d) := up2 (by kernel_rfl) (op14_2 u30) (op14_4 u21)
  have u15 : wpUp Pz.prog .any ops14 (fun a' w' => a' = ab pb undef (pW pb) (pW pb) (pW pb) (pW hbk) (pW pb) (pW pb) (.pointer (some ⟨pb, 1, none⟩)) (.int .i64 0) (.slice (some ⟨w.heap.size, 0, none⟩) 1 1) undef ∧ like w' (w.alloc (.cells #[.int .i64 0] 3))) 3 #[true, false, false, false, true, true, true, true, true, false, false] (ab pb undef (pW pb) undef undef undef (pW pb) (pW pb) (.pointer (some ⟨pb, 1, none⟩)) (.int .i64 0) (.slice (some ⟨w.heap.size, 0, none⟩) 1 1) undef) ((re w t d).alloc (.cells #[.int .i64 0] 3)) := up1 (by kernel_rfl) (op14_1 u25)
  have u14 : wpUp Pz.prog .any ops14 (fun a' w' => a' = ab pb undef (pW pb) (pW pb) (pW pb) (pW hbk) (pW pb) (pW pb) (.pointer (some ⟨pb, 1, none⟩)) (.int .i64 0) (.slice (some ⟨w.heap.size, 0, none⟩) 1 1) undef ∧ like w' (w.alloc (.cells #[.int .i64 0] 3))) 4 #[true, false, false, false, true, true, true, true, false, false, false] (ab pb undef (pW pb) undef undef undef (pW pb) (pW pb) (.pointer (some ⟨pb, 1, none⟩)) (.int .i64 0) undef undef) (re w t d) := up2 (by kernel_rfl) (op14_1 u24) (op14_8 u15)
  have u13 : wpUp Pz.prog .any ops14 (fun a' w' => a' = ab pb undef (pW pb) (pW pb) (pW pb) (pW hbk) (pW pb) (pW pb) (.pointer (some ⟨pb, 1, none⟩)) (.int .i64 0) (.slice (some ⟨w.heap.size, 0, none⟩) 1 1) undef ∧ like w' (w.alloc (.cells #[.int .i64 0] 3))) 5 #[true, false, false, false, true, true, true, false, false, false, false] (ab pb undef (pW pb) undef undef undef (pW pb) (pW pb) (.pointer (some ⟨pb, 1, none⟩)) undef undef undef) (re w t d) := up2 (by kernel_rfl) (op14_1 u23) (op14_7 h1' u14)
  have u12 : wpUp Pz.prog .any ops14 (fun a' w' => a' = ab pb undef (pW pb) (pW pb) (pW pb) (pW hbk) (pW pb) (pW pb) (.pointer (some ⟨pb, 1, none⟩)) (.int .i64 0) (.slice (some ⟨w.heap.size, 0, none⟩) 1 1) undef ∧ like w' (w.alloc (.cells #[.int .i64 0] 3))) 6 #[true, false, false, false, true, true, false, false, false, false, false] (ab pb undef (pW pb) undef undef undef (pW pb) (pW pb) undef undef undef undef) (re w t d) := up2 (by kernel_rfl) (op14_1 u22) (op14_6 u13)
  have u11 : wpUp Pz.prog .any ops14 (fun a' w' => a' = ab pb undef (pW pb) (pW pb) (pW pb) (pW hbk) (pW pb) (pW pb) (.pointer (some ⟨pb, 1, none⟩)) (.int .i64 0) (.slice (some ⟨w.heap.size, 0, none⟩) 1 1) undef ∧ like w' (w.alloc (.cells #[.int .i64 0] 3))) 7 #[true, false, false, false, true, false, false, false, false, false, false] (ab pb undef (pW pb) undef undef undef (pW pb) undef undef undef undef undef) (re w t d) := up2 (by kernel_rfl) (op14_1 u21) (op14_5 u12)
  have u10 : wpUp Pz.prog .any ops14 (fun a' w' => a' = ab pb undef (pW pb) (pW pb) (pW pb) (pW hbk) (pW pb) (pW pb) (.pointer (some ⟨pb, 1, none⟩)) (.int .i64 0) (.slice (some ⟨w.heap.size, 0, none⟩) 1 1) undef ∧ like w' (w.alloc (.cells #[.int .i64 0] 3))) 8 #[true, false, false, false, false, false, false, false, false, false, false] (ab pb undef (pW pb) undef undef undef undef undef undef undef undef undef) (re w t d) := up2 (by kernel_rfl) (op14_1 u20) (op14_4 u11)
  have u05 : wpUp Pz.prog .any ops14 (fun a' w' => a' = ab pb undef (pW pb) (pW pb) (pW pb) (pW hbk) (pW pb) (pW pb) (.pointer (some ⟨pb, 1, none⟩)) (.int .i64 0) (.slice (some ⟨w.heap.size, 0, none⟩) 1 1) undef ∧ like w' (w.alloc (.cells #[.int .i64 0] 3))) 4 #[false, false, false, false, true, true, true, true, true, false, false] (ab pb undef undef undef undef undef (pW pb) (pW pb) (.pointer (some ⟨pb, 1, none⟩)) (.int .i64 0) (.slice (some ⟨w.heap.size, 0, none⟩) 1 1) undef) ((re w t d).alloc (.cells #[.int .i64 0] 3)) := up1 (by kernel_rfl) (op14_0 u15)
  have u04 : wpUp Pz.prog .any ops14 (fun a' w' => a' = ab pb undef (pW pb) (pW pb) (pW pb) (pW hbk) (pW pb) (pW pb) (.pointer (some ⟨pb, 1, none⟩)) (.int .i64 0) (.slice (some ⟨w.heap.size, 0, none⟩) 1 1) undef ∧ like w' (w.alloc (.cells #[.int .i64 0] 3))) 5 #[false, false, false, false, true, true, true, true, false, false, false] (ab pb undef undef undef undef undef (pW pb) (pW pb) (.pointer (some ⟨pb, 1, none⟩)) (.int .i64 0) undef undef) (re w t d) := up2 (by kernel_rfl) (op14_0 u14) (op14_8 u05)
  have u03 : wpUp Pz.prog .any ops14 (fun a' w' => a' = ab pb undef (pW pb) (pW pb) (pW pb) (pW hbk) (pW pb) (pW pb) (.pointer (some ⟨pb, 1, none⟩)) (.int .i64 0) (.slice (some ⟨w.heap.size, 0, none⟩) 1 1) undef ∧ like w' (w.alloc (.cells #[.int .i64 0] 3))) 6 #[false, false, false, false, true, true, true, false, false, false, false] (ab pb undef undef undef undef undef (pW pb) (pW pb) (.pointer (some ⟨pb, 1, none⟩)) undef undef undef) (re w t d) := up2 (by kernel_rfl) (op14_0 u13) (op14_7 h1' u04)
  have u02 : wpUp Pz.prog .any ops14 (fun a' w' => a' = ab pb undef (pW pb) (pW pb) (pW pb) (pW hbk) (pW pb) (pW pb) (.pointer (some ⟨pb, 1, none⟩)) (.int .i64 0) (.slice (some ⟨w.heap.size, 0, none⟩) 1 1) undef ∧ like w' (w.alloc (.cells #[.int .i64 0] 3))) 7 #[false, false, false, false, true, true, false, false, false, false, false] (ab pb undef undef undef undef undef (pW pb) (pW pb) undef undef undef undef) (re w t d) := up2 (by kernel_rfl) (op14_0 u12) (op14_6 u03)
  have u01 : wpUp Pz.prog .any ops14 (fun a' w' => a' = ab pb undef (pW pb) (pW pb) (pW pb) (pW hbk) (pW pb) (pW pb) (.pointer (some ⟨pb, 1, none⟩)) (.int .i64 0) (.slice (some ⟨w.heap.size, 0, none⟩) 1 1) undef ∧ like w' (w.alloc (.cells #[.int .i64 0] 3))) 8 #[false, false, false, false, true, false, false, false, false, false, false] (ab pb undef undef undef undef undef (pW pb) undef undef undef undef undef) (re w t d) := up2 (by kernel_rfl) (op14_0 u11) (op14_5 u02)
  have u00 : wpUp Pz.prog .any ops14 (fun a' w' => a' = ab pb undef (pW pb) (pW pb) (pW pb) (pW hbk) (pW pb) (pW pb) (.pointer (some ⟨pb, 1, none⟩)) (.int .i64 0) (.slice (some ⟨w.heap.size, 0, none⟩) 1 1) undef ∧ like w' (w.alloc (.cells #[.int .i64 0] 3))) 9 #[false, false, false, false, false, false, false, false, false, false, false] (ab pb undef undef undef undef undef undef undef undef undef undef undef) (re w t d) := up2 (by kernel_rfl) (op14_0 u10) (op14_4 u01)
  exact u00
end
end Go.Proofs.YtdianedehhecoaaGreatDoor.Co

/- Play.tick of a duel in which one gives up, beside leavers. -/
namespace Go.Proofs.YtdianedehhecoaaGreatDoor.Co
variable [Loops]
set_option linter.unusedSectionVars false
open Go.Conc (G)
open Go.RowKit
set_option maxRecDepth 20000
set_option linter.unusedVariables false
set_option linter.unusedSimpArgs false
theorem f14_fn : PP.fg[14]? = some Tryz.f14 := by kernel_rfl
theorem f14_same : PP.fs[14]? = PP.fg[14]? := by kernel_rfl
theorem f14_body : Tryz.f14.body = some c14 := by kernel_rfl
theorem f34_fn' : PP.fg[34]? = some Tryz.f34 := by kernel_rfl
theorem rest14_eq : rest14 = after 2 cTick := by kernel_rfl
theorem a14 (pb : Nat) : ({ tmps := #[pW pb] ++ Array.replicate (Tryz.f14.ntmps - (#[pW pb] : Array Value).size) undef, defers := [] } : Act) = ⟨#[pW pb, undef, undef, undef, undef, undef, undef, undef, undef, undef, undef, undef, undef, undef, undef, undef, undef, undef, undef, undef, undef, undef, undef, undef, undef, undef, undef, undef, undef, undef, undef, undef, undef, undef, undef, undef, undef, undef, undef, undef, undef, undef, undef, undef, undef, undef, undef, undef, undef, undef, undef, undef, undef, undef, undef, undef, undef, undef, undef, undef, undef, undef, undef, undef, undef, undef, undef, undef, undef, undef], []⟩ := by kernel_rfl
theorem w14_0 {pb : Nat} {w : World} (t : Nat → Question → Nat) (d : Nat) : (sq1 c14).wp PP.s (fun e a' w' => e = .normal ∧ a' = ab pb undef undef undef undef undef undef undef undef undef undef undef ∧ like w' w) ⟨#[pW pb, undef, undef, undef, undef, undef, undef, undef, undef, undef, undef, undef, undef, undef, undef, undef, undef, undef, undef, undef, undef, undef, undef, undef, undef, undef, undef, undef, undef, undef, undef, undef, undef, undef, undef, undef, undef, undef, undef, undef, undef, undef, undef, undef, undef, undef, undef, undef, undef, undef, undef, undef, undef, undef, undef, undef, undef, undef, undef, undef, undef, undef, undef, undef, undef, undef, undef, undef, undef, undef], []⟩ (re w t d) := by
  show Code.wp Pz.prog (sq1 c14) _ _ _
  simp only [sq1, c14, Tryz.f14, Option.getD, ab]
  go_wp2
  exact ⟨rfl, rfl, rfl⟩
theorem o14_9 : ops14[9]? = some { dst := some 16, op := .call { callee := .value (.func 34), args := #[.tmp 10, .tmp 15], argTypes := #[33, 25] }, type := 38, pos := "keeps.go:104", after := #[{ on := 3, ground := .data }, { on := 8, ground := .data }], guard := none } := by kernel_rfl
theorem o14_10 : ∃ o, ops14[10]? = some o ∧ o.op = .assign (.tmp 16) ∧ o.dst = some 3 ∧ o.guard = none := ⟨(ops14[10]?).getD default, by kernel_rfl, by kernel_rfl, by kernel_rfl, by kernel_rfl⟩
theorem ready14_9 : Region.ready .any ops14 #[true, true, true, true, true, true, true, true, true, false, false] = [9] := by kernel_rfl
theorem ready14_10 : Region.ready .any ops14 ((#[true, true, true, true, true, true, true, true, true, false, false] : Array Bool).setIfInBounds 9 true) = [10] := by kernel_rfl
theorem ends14 : endsUp .any ops14 #[true, true, true, true, true, true, true, true, true, false, false] 9 (Array.replicate ops14.size false) = true := by kernel_rfl
theorem size14 : ops14.size = 9 + 2 := by kernel_rfl
theorem args14 {pb : Nat} {t3 t7 t8 t9 t10 t11 t12 t13 t14 t15 t16 : Value} : (#[Operand.tmp 10, Operand.tmp 15].map (ab pb t3 t7 t8 t9 t10 t11 t12 t13 t14 t15 t16).eval) = #[t10, t15] := by kernel_rfl
theorem put14 {pb : Nat} {t3 t7 t8 t9 t10 t11 t12 t13 t14 t15 t16 v : Value} : (ab pb t3 t7 t8 t9 t10 t11 t12 t13 t14 t15 t16).put (some 16) v = ab pb t3 t7 t8 t9 t10 t11 t12 t13 t14 t15 v := by kernel_rfl
theorem put14' {pb : Nat} {t3 t7 t8 t9 t10 t11 t12 t13 t14 t15 t16 v : Value} : (ab pb t3 t7 t8 t9 t10 t11 t12 t13 t14 t15 t16).put (some 3) v = ab pb v t7 t8 t9 t10 t11 t12 t13 t14 t15 t16 := by kernel_rfl
theorem eval14 {pb : Nat} {t3 t7 t8 t9 t10 t11 t12 t13 t14 t15 t16 : Value} : (ab pb t3 t7 t8 t9 t10 t11 t12 t13 t14 t15 t16).eval (.tmp 16) = t16 := by kernel_rfl
theorem mixed14 : PP.g.follows .mixedOrders = true := by kernel_rfl
section
variable {W : World} {hbk rb pb : Nat} {sd : Int} {S : RS} {f0 f1 : Bool} {x y : Value} {N k : Nat}
theorem tick_cb (hk : k < 2) (h : SOn W hbk rb pb sd S f0 (decide (k = 0)) f1 (decide (k = 1)) (.slice none 0 0) (playV hbk sd x y 0 false)) (hov : overB S = false) (ht : S.turn = 0) (hov' : overB (doF S (gives k)) = true) (hN : N ≤ hbk) (hNp : N ≤ pb)
    (hd : W.cell? ⟨4, 15, none⟩ = some (.int .u8 4)) (hdl : 4 < N) :
    CB PP 14 #[pW pb] W fun v w' => v = .bool true ∧ (∃ sv', SOn w' hbk rb pb sd (doF S (gives k)) f0 false f1 false sv' (playV hbk sd x y 1 true)) ∧ Left N W w' := by
  have hp := h.play
  have h0 : W.cell? ⟨pb, 0, none⟩ = some (pW hbk) := hp.cell rfl
  have h1 : W.cell? ⟨pb, 1, none⟩ = some (.int .i64 0) := hp.cell rfl
  refine CB.of_base PP_rdy f14_fn f14_same f14_body fun cs c hS => ?_
  rw [a14] at hS
  refine (hS.seq c14_eq).trans fun c1 hS => ?_
  refine (lone_piece PP_rdy w14_0 hS).trans fun c2 hS => ?_
  refine (hS.seq rfl).trans fun c3 hS => ?_
  have HW : WB PP (.region 1 ops14 true) (fun e a' w' => e = .normal ∧ a' = ab pb (.int .i64 0) (pW pb) (pW pb) (pW pb) (pW hbk) (pW pb) (pW pb) (.pointer (some ⟨pb, 1, none⟩)) (.int .i64 0) (.slice (some ⟨W.heap.size, 0, none⟩) 1 1) (.int .i64 0) ∧ (∃ sv', SOn w' hbk rb pb sd (doF S (gives k)) f0 false f1 false sv' (playV hbk sd x y 0 false)) ∧ Left N W w') (ab pb undef undef undef undef undef undef undef undef undef undef undef) W := by
    refine WB.draw_two PP_rdy mixed14 size14 ends14 ready14_9 ready14_10 (up14 h0 h1) ?_
    rintro a' w' ⟨t, d, rfl, hl⟩
    have hl : like w' (W.alloc (.cells #[.int .i64 0] 3)) := hl
    have hblk : ∀ j : Nat, w'.heap[j]? = (W.alloc (.cells #[.int .i64 0] 3)).heap[j]? := fun j => by rw [hl.1]
    have hold : ∀ j, j < W.heap.size → w'.heap[j]? = W.heap[j]? := fun j hj => (hblk j).trans (Below.heap_alloc W _ j hj)
    have hsz : w'.heap.size = W.heap.size + 1 := by rw [hl.1]; simp
    have hpl := h.play.lt
    have hL : Left N W w' := ⟨hl.2.1, hl.2.2, by omega, fun j hj => hold j (by omega)⟩
    have hs : SOn w' hbk rb pb sd S f0 (decide (k = 0)) f1 (decide (k = 1)) (.slice none 0 0) (playV hbk sd x y 0 false) := h.on (by omega) hold
    have hn : w'.cell? ⟨W.heap.size, 0, none⟩ = some (.int .i64 0) := (World.cell?_of_block (w := W.alloc (.cells #[.int .i64 0] 3)) (hblk _)).trans ((BlkAt.new W [.int .i64 0] 3).cell rfl)
    refine WR.call o14_9 rfl rfl f34_fn' (by kernel_rfl) (by kernel_rfl) ?_
    rw [args14]
    refine (tick_son (N := N) hk hs hov (by omega) (by omega) hN hn ((World.cell?_of_block (w := W) (hold _ (cell_lt hd))).trans hd) hdl).mono ?_
    rintro v w2 ⟨rfl, ⟨sv', hs2⟩, hL2⟩
    obtain ⟨o, ho, hop, hds, hgd⟩ := o14_10
    rw [put14]
    refine WR.pre (pre := [10]) (rest := []) (K := fun a3 w3 => a3 = ab pb (.int .i64 0) (pW pb) (pW pb) (pW pb) (pW hbk) (pW pb) (pW pb) (.pointer (some ⟨pb, 1, none⟩)) (.int .i64 0) (.slice (some ⟨W.heap.size, 0, none⟩) 1 1) (.int .i64 0) ∧ like w3 w2) PP_rdy (fun t d => ?_) ?_
    · refine wpOps_val (v := .int .i64 0) (w' := re w2 t d) ho hgd ?_ ?_
      · unfold execOp
        rw [hop]
        simp only [eval14]
        rfl
      · rw [hds, put14']
        exact ⟨rfl, rfl, rfl, rfl, rfl⟩
    · rintro a3 w3 ⟨t, d, rfl, hl3⟩
      have hl3 : like w3 w2 := hl3
      exact WR.nil ⟨rfl, rfl, ⟨sv', hs2.on (by rw [hl3.1]; exact Nat.le_refl _) fun j _ => by rw [hl3.1]⟩, (hL.trans hL2).trans ⟨hl3.2.1, hl3.2.2, by rw [hl3.1]; exact Nat.le_refl _, fun j _ => by rw [hl3.1]⟩⟩
  refine (HW _ _ cs c3 hS).trans ?_
  rintro c4 ⟨e, a', w', ⟨rfl, rfl, ⟨sv', hs⟩, hL⟩, harr⟩
  have hS : Stands PP _ cs w' c4 := harr
  rw [rest14_eq] at hS
  have hQ : ∀ t d, (after 2 cTick).wp PP.s (fun e a w2 => e = .ret ∧ a.defers = [] ∧ a.tmps.getD 2 undef = .bool true ∧ SOn w2 hbk rb pb sd (doF S (gives k)) f0 false f1 false sv' (playV hbk sd x y 1 true) ∧ Left N w' w2) (ab pb (.int .i64 0) (pW pb) (pW pb) (pW pb) (pW hbk) (pW pb) (pW pb) (.pointer (some ⟨pb, 1, none⟩)) (.int .i64 0) (.slice (some ⟨W.heap.size, 0, none⟩) 1 1) (.int .i64 0)) (re w' t d) := fun t d => by
    have hs' : SOn (re w' t d) hbk rb pb sd (doF S (gives k)) f0 false f1 false sv' (playV hbk sd x y 0 false) := hs.on (Nat.le_refl _) fun _ _ => rfl
    exact wp_mono (tick_rest (N := N) hs' hov' (by rw [(doF_turn S (gives k)).1, ht]; rfl) hNp rfl rfl rfl) fun e a w2 ⟨q1, q2, q3, q4, q5⟩ => ⟨q1, q2, q3, q4, q5.os, q5.output, q5.size, q5.block⟩
  refine (WB.of_wp PP_rdy (fun e a w h => .inr (.inl h.1)) hQ _ _ cs c4 hS).mono ?_
  rintro c5 ⟨e, a2, w2, ⟨t, d, rfl, q2, q3, q4, q5⟩, todo, hS⟩
  exact ⟨a2, w2, todo, .bool true, q2, ⟨t, d, by rw [results_tmp rfl, q3]⟩, ⟨rfl, ⟨sv', q4.on (Nat.le_refl _) fun _ _ => rfl⟩, hL.trans ⟨q5.os, q5.output, q5.size, q5.block⟩⟩, hS⟩
end
end Go.Proofs.YtdianedehhecoaaGreatDoor.Co

/- Strangers: one good run from every start. -/
namespace Go.Proofs.YtdianedehhecoaaGreatDoor.Co
set_option linter.unusedSectionVars false
open Go.Conc (G solo)
open Go.RowKit
set_option maxRecDepth 20000
set_option linter.unusedVariables false
set_option linter.unusedSimpArgs false
theorem f10_fn : PP.fg[10]? = some Tryz.f10 := by kernel_rfl
theorem f10_same : PP.fs[10]? = PP.fg[10]? := by kernel_rfl
theorem f10_body : Tryz.f10.body = some cStr := by kernel_rfl
theorem f10_noInit : PP.T.inits.idxOf? 10 = none := by kernel_rfl
theorem a10 (s c h : Value) : ({ tmps := #[s, c, h] ++ Array.replicate (Tryz.f10.ntmps - (#[s, c, h] : Array Value).size) undef, defers := [] } : Act) = { tmps := #[s, c, h] ++ Array.replicate 237 undef, defers := [] } := by kernel_rfl
noncomputable def ops30 : Array Oper := opsOf (sq1 cStr13)
theorem c13_eq : cStr13 = .seq (.region 30 ops30 false) (after 14 cStr) := by kernel_rfl
theorem rng30 : List.range ops30.size = [0] ++ [1, 2] := by kernel_rfl
theorem o30_0 : ∃ o, ops30[0]? = some o ∧ o.op = .move (.tmp 7) ∧ o.dst = some 206 ∧ o.guard = none := ⟨(ops30[0]?).getD default, by kernel_rfl, by kernel_rfl, by kernel_rfl, by kernel_rfl⟩
theorem o30_1 : ∃ o, ops30[1]? = some o ∧ o.op = .call { callee := .value (.func 14), args := #[.tmp 206], argTypes := #[26] } ∧ o.dst = some 207 ∧ o.guard = none := ⟨(ops30[1]?).getD default, by kernel_rfl, by kernel_rfl, by kernel_rfl, by kernel_rfl⟩
theorem o30_2 : ∃ o, ops30[2]? = some o ∧ o.op = .assign (.tmp 207) ∧ o.dst = some 25 ∧ o.guard = none := ⟨(ops30[2]?).getD default, by kernel_rfl, by kernel_rfl, by kernel_rfl, by kernel_rfl⟩
theorem put_same {a : Act} {t : Nat} {v : Value} (h : t < a.tmps.size) : (a.put (some t) v).tmps.getD t undef = v := by
  simp [Act.put, Array.getD, h]
theorem put_other {a : Act} {t s : Nat} {v : Value} (h : s ≠ t) : (a.put (some t) v).tmps.getD s undef = a.tmps.getD s undef := by
  simp only [Act.put, Array.getD_eq_getD_getElem?]
  rw [Array.getElem?_setIfInBounds_ne (by omega)]
theorem put_sz {a : Act} {t : Nat} {v : Value} : (a.put (some t) v).tmps.size = a.tmps.size := by simp [Act.put]
theorem calmed_cell {W : World} {a : Addr} {v : Value} (h : W.cell? a = some v) : (calmed W).cell? a = some v := by
  have e : (calmed W).heap[a.block]? = (W.heap[a.block]?).map maskO := by simp [calmed]
  unfold World.cell? at h ⊢
  rw [e]
  cases ho : W.heap[a.block]? with
  | none => rw [ho] at h; exact h
  | some o =>
    rw [ho] at h
    cases o <;> first | exact h | (simp at h; done)
theorem calmed_size (W : World) : (calmed W).heap.size = W.heap.size := by simp [calmed]
theorem strangers_good (W : World) (seed who : Int) {cv : Value} {L : List Int} (hN : NArg W cv L) (hL : L.length ≤ 140737488351232) (b0 : -9223372036854775808 ≤ seed) (b1 : seed ≤ 9223372036854775807) (b2 : -9223372036854775808 ≤ who) (b3 : who ≤ 9223372036854775807) (hC : Corners W) (hD : W.cell? ⟨4, 15, none⟩ = some (.int .u8 4)) :
    letI := loopsOf W
    ∃ N last o W' t', runNT PP.g (N + 1) (solo (G (Frame.enter PP.g 10 #[.int .i64 seed, cv, .int .i64 who] .normal) []) W) #[] = (.ended o W', t') ∧ runN PP.g N (solo (G (Frame.enter PP.g 10 #[.int .i64 seed, cv, .int .i64 who] .normal) []) W) = .next last ∧ step PP.g last = .ended o W' ∧
      Go.Conc.Good PP.g (fun v W' => ∃ Γ w', (v = .bool true ∧ Left W.heap.size (calmed W) w') ∧ Gh Γ w' W') last o W' t' := by
  letI := loopsOf W
  have hN' : NArg (calmed W) cv L := hN.on (by rw [calmed_size]; exact Nat.le_refl _) fun a x h => calmed_cell h
  have hC' : Corners (calmed W) := fun p hp => by
    obtain ⟨h1, h2, h3, h4⟩ := hC p hp
    exact ⟨calmed_cell h1, calmed_cell h2, calmed_cell h3, calmed_cell h4⟩
  have hD' := calmed_cell hD
  have h4l : 4 < W.heap.size := cell_lt hD
  have hcs := calmed_size W
  refine good_of_base W f10_fn f10_same f10_body f10_noInit PP_rdy fun c hS => ?_
  rw [a10] at hS
  generalize calmed W = w0 at *
  generalize hsd : pickF seed 1000 = sd
  have hU : ∀ t d, Upto PP.s cStr cStr13 (fun a w' => ∃ pb hbk rb x y, ∃ k : Nat, k < 2 ∧ a.defers = [] ∧ a.tmps.size = 240 ∧ a.tmps.getD 7 undef = .pointer (some ⟨pb, 0, none⟩) ∧ a.tmps.getD 22 undef = .int .i64 k ∧ a.tmps.getD 23 undef = .int .i64 0 ∧ a.tmps.getD 24 undef = .int .i64 4 ∧ W.heap.size ≤ hbk ∧ W.heap.size ≤ pb ∧
      SOn w' hbk rb pb sd (startTo sd 2) (decide (k = 0)) (decide (k = 0)) (decide (k = 1)) (decide (k = 1)) (.slice none 0 0) (playV hbk sd x y 0 false) ∧ Left W.heap.size w0 w') { tmps := #[.int .i64 seed, cv, .int .i64 who] ++ Array.replicate 237 undef, defers := [] } (re w0 t d) := fun t d => by
    refine (strange_upto (w := re w0 t d) seed who (hN'.on (Nat.le_refl _) fun a x h => h) hL b0 b1 b2 b3 (fun p hp => hC' p hp) hD').mono ?_
    rintro a w' ⟨pb, hbk, rb, x, y, k, q1, q2, q3, q4, q5, q6, q7, q8, q9, q10, q11⟩
    rw [hsd] at q10
    have hz : (re w0 t d).heap.size = W.heap.size := hcs
    rw [hz] at q8 q9 q11
    exact ⟨pb, hbk, rb, x, y, k, q1, q2, q3, q4, q5, q6, q7, q8, q9, q10, q11.os, q11.output, q11.size, q11.block⟩
  refine (upto_stands PP_rdy hU hS).trans ?_
  rintro c1 ⟨a, w1, ⟨t1, d1, pb, hbk, rb, x, y, k, hk, q2, q3, q4, q5, q6, q7, q8, q9, q10, q11⟩, hS⟩
  have hs1 : SOn w1 hbk rb pb sd (startTo sd 2) (decide (k = 0)) (decide (k = 0)) (decide (k = 1)) (decide (k = 1)) (.slice none 0 0) (playV hbk sd x y 0 false) := q10.on (Nat.le_refl _) fun _ _ => rfl
  have hL1 : Left W.heap.size w0 w1 := ⟨q11.os, q11.output, q11.size, q11.block⟩
  have hd1 : w1.cell? ⟨4, 15, none⟩ = some (.int .u8 4) := (World.cell?_of_block (w := w0) (hL1.block 4 h4l)).trans hD'
  refine (hS.seq c13_eq).trans fun c2 hS => ?_
  have HW : WB PP (.region 30 ops30 false) (fun e a' w' => e = .normal ∧ a'.defers = [] ∧ a'.tmps.size = 240 ∧ a'.tmps.getD 7 undef = .pointer (some ⟨pb, 0, none⟩) ∧ a'.tmps.getD 22 undef = .int .i64 k ∧ a'.tmps.getD 23 undef = .int .i64 0 ∧ a'.tmps.getD 24 undef = .int .i64 4 ∧ a'.tmps.getD 25 undef = .bool true ∧
      (∃ sv', SOn w' hbk rb pb sd (doF (startTo sd 2) (gives k)) (decide (k = 0)) false (decide (k = 1)) false sv' (playV hbk sd x y 1 true)) ∧ Left W.heap.size w0 w') a w1 := by
    refine WB.region ?_
    rw [rng30]
    obtain ⟨o, ho, hop, hds, hgd⟩ := o30_0
    refine WR.pre (K := fun a3 w3 => a3 = a.put (some 206) (pW pb) ∧ like w3 w1) PP_rdy (fun t d => ?_) ?_
    · refine wpOps_val (v := pW pb) (w' := re w1 t d) ho hgd ?_ ?_
      · unfold execOp
        rw [hop]
        simp only [Act.eval, q4]
        rfl
      · rw [hds]
        exact ⟨rfl, rfl, rfl, rfl, rfl⟩
    rintro a3 w3 ⟨t3, d3, rfl, hl3⟩
    have hl3 : like w3 w1 := hl3
    have hs3 : SOn w3 hbk rb pb sd (startTo sd 2) (decide (k = 0)) (decide (k = 0)) (decide (k = 1)) (decide (k = 1)) (.slice none 0 0) (playV hbk sd x y 0 false) := hs1.on (by rw [hl3.1]; exact Nat.le_refl _) fun j _ => by rw [hl3.1]
    have hL3 : Left W.heap.size w0 w3 := hL1.trans ⟨hl3.2.1, hl3.2.2, by rw [hl3.1]; exact Nat.le_refl _, fun j _ => by rw [hl3.1]⟩
    have hd3 : w3.cell? ⟨4, 15, none⟩ = some (.int .u8 4) := (World.cell?_of_block (w := w0) (hL3.block 4 h4l)).trans hD'
    obtain ⟨o1, ho1, hop1, hds1, hgd1⟩ := o30_1
    refine WR.call ho1 hop1 hgd1 f14_fn (by kernel_rfl) (by kernel_rfl) ?_
    have e6 : (a.put (some 206) (pW pb)).eval (.tmp 206) = pW pb := put_same (by omega)
    have ea : (#[Operand.tmp 206].map (a.put (some 206) (pW pb)).eval) = #[pW pb] := by
      simp only [List.map_toArray, List.map_cons, List.map_nil, e6]
    rw [ea, hds1]
    refine (tick_cb (N := W.heap.size) hk hs3 (begun_goes sd) (startTo_ore sd 2).2 (gives_over sd k hk) q8 q9 hd3 h4l).mono ?_
    rintro v w4 ⟨rfl, ⟨sv', hs4⟩, hL4⟩
    obtain ⟨o2, ho2, hop2, hds2, hgd2⟩ := o30_2
    refine WR.pre (pre := [2]) (rest := []) (K := fun a5 w5 => a5 = (((a.put (some 206) (pW pb)).put (some 207) (.bool true)).put (some 25) (.bool true)) ∧ like w5 w4) PP_rdy (fun t d => ?_) ?_
    · refine wpOps_val (v := .bool true) (w' := re w4 t d) ho2 hgd2 ?_ ?_
      · unfold execOp
        rw [hop2]
        have e7 : ((a.put (some 206) (pW pb)).put (some 207) (.bool true)).tmps.getD 207 undef = .bool true := put_same (by rw [put_sz]; omega)
        simp only [Act.eval, e7]
        rfl
      · rw [hds2]
        exact ⟨rfl, rfl, rfl, rfl, rfl⟩
    rintro a5 w5 ⟨t5, d5, rfl, hl5⟩
    have hl5 : like w5 w4 := hl5
    refine WR.nil ⟨rfl, q2, ?_, ?_, ?_, ?_, ?_, ?_, ⟨sv', hs4.on (by rw [hl5.1]; exact Nat.le_refl _) fun j _ => by rw [hl5.1]⟩, (hL3.trans hL4).trans ⟨hl5.2.1, hl5.2.2, by rw [hl5.1]; exact Nat.le_refl _, fun j _ => by rw [hl5.1]⟩⟩
    · rw [put_sz, put_sz, put_sz]; exact q3
    · rw [put_other (by omega), put_other (by omega), put_other (by omega)]; exact q4
    · rw [put_other (by omega), put_other (by omega), put_other (by omega)]; exact q5
    · rw [put_other (by omega), put_other (by omega), put_other (by omega)]; exact q6
    · rw [put_other (by omega), put_other (by omega), put_other (by omega)]; exact q7
    · exact put_same (by rw [put_sz, put_sz]; omega)
  refine (HW _ _ [] c2 hS).trans ?_
  rintro c3 ⟨e, a5, w5, ⟨rfl, p2, p3, p4, p5, p6, p7, p8, ⟨sv', hs5⟩, hL5⟩, harr⟩
  have hS : Stands PP _ [] w5 c3 := harr
  obtain ⟨tm5, df5⟩ := a5
  obtain rfl : df5 = [] := p2
  have hQ : ∀ t d, (after 14 cStr).wp PP.s (fun e a w2 => e = .ret ∧ a.defers = [] ∧ a.tmps.getD 6 undef = .bool true ∧ Left W.heap.size w5 w2) ⟨tm5, []⟩ (re w5 t d) := fun t d => by
    have hs' : SOn (re w5 t d) hbk rb pb sd (doF (startTo sd 2) (gives k)) (decide (k = 0)) false (decide (k = 1)) false sv' (playV hbk sd x y 1 true) := hs5.on (Nat.le_refl _) fun _ _ => rfl
    exact wp_mono (strange_rest (N := W.heap.size) hk hs' (gives_over sd k hk) (gives_turn sd k) (gives_wins sd k hk) (by have := hL5.size; show W.heap.size ≤ w5.heap.size; omega) p3 p4 p5 p6 p7 p8) fun e a w2 ⟨r1, r2, r3, r4⟩ => ⟨r1, r2, r3, r4.os, r4.output, r4.size, r4.block⟩
  refine (WB.of_wp PP_rdy (fun e a w h => .inr (.inl h.1)) hQ _ _ [] c3 hS).mono ?_
  rintro c4 ⟨e, a6, w6, ⟨t6, d6, rfl, r2, r3, r4⟩, todo, hS⟩
  exact ⟨a6, w6, todo, .bool true, r2, ⟨t6, d6, by rw [results_tmp rfl, r3]⟩, ⟨rfl, hL5.trans ⟨r4.os, r4.output, r4.size, r4.block⟩⟩, hS⟩
end Go.Proofs.YtdianedehhecoaaGreatDoor.Co
