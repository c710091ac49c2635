/- The document's answer: command. -/
import Derived.Test.YtdianedehhecoaaDoorRefDoes2
import Derived.Test.YtdianedehhecoaaDoorRefDoes4
namespace Go.Proofs.YtdianedehhecoaaDoor
open Go.RowKit
set_option linter.unusedVariables false
set_option linter.unusedSimpArgs false

theorem does_any {w : World} {O : Nat → Prop} {b k : Nat} {S : RS} {gv uv : Value} (wh x y on : Int) (h : RefAt w O b S gv uv) (hI : RInv S) (hk : k < S.units.length)
    (hx0 : 0 ≤ x) (hx7 : x ≤ 7) (hy0 : 0 ≤ y) (hy7 : y ≤ 7) (hon : on < S.units.length) :
    Calls Tryd.prog 61 #[.pointer (some ⟨b, 0, none⟩), .int .i64 k, .int .i64 wh, .int .i64 x, .int .i64 y, .int .i64 on] w fun e w' => e = .returned (.bool (doesF S k wh x y on).2) ∧ Moved O w b gv (doesF S k wh x y on).1 w' := by
  by_cases n1 : wh = 1
  · subst n1; exact does_1 x y on h hI hk
  by_cases n2 : wh = 2
  · subst n2
    by_cases h0 : on < 0
    · exact does_2none x y on h hI hk h0
    · obtain ⟨j, rfl⟩ := Int.eq_ofNat_of_zero_le (show 0 ≤ on by omega)
      exact does_2 x y h hI hk j (by omega)
  by_cases n3 : wh = 3
  · subst n3; exact does_3 x y on h hI hk hx0 hx7 hy0 hy7
  by_cases n4 : wh = 4
  · exact does_45 wh x y on h hI hk (.inl n4)
  by_cases n5 : wh = 5
  · exact does_45 wh x y on h hI hk (.inr n5)
  exact does_else wh x y on h hI hk n1 n2 n3 n4 n5

set_option maxHeartbeats 2000000 in
set_option maxRecDepth 100000 in
theorem command_give {w : World} {O : Nat → Prop} {b : Nat} {S : RS} {gv uv : Value} (p : Int) (h : RefAt w O b S gv uv) (hI : RInv S) :
    Calls Tryd.prog 37 #[.pointer (some ⟨b, 0, none⟩), .agg #[.int .i64 p, .int .i64 0, .int .i64 0, .int .i64 0, .int .i64 0]] w fun e w' => e = .returned (.tuple #[]) ∧ Moved O w b gv { S with units := giveTo S.units p S.units.length } w' := by
  have hn := hI.bounds.1
  have hu0 := hI.u0
  obtain ⟨g, cap, hv, hob, -, -⟩ := unit_cells h hI.u0
  subst hv
  have hO := (h.ou g hob).1
  have hgne := (h.ou g hob).2.1
  have hbl := h.lt
  have hgl := h.units.lt hob
  have H0 : Hid (RefAt w O b S gv _) := h
  clear h
  go_enter Tryd.func37, Tryd.ntmps37
  go_wp2
  go_loopw [5] (fun i wr => ∃ k : Nat, k ≤ S.units.length ∧ i = .int .i64 k ∧ RefAt wr O b { S with units := giveTo S.units p k } gv (.slice (some ⟨g, 0, none⟩) S.units.length cap) ∧ Keep O w wr) (fun i _ => S.units.length - (intOf i).toNat)
  case atStart => exact ⟨0, Nat.zero_le _, rfl, H0.out.alloc _, (Keep.refl _ _).alloc _⟩
  case round =>
    obtain ⟨k, hk, rfl, hr, hkp⟩ := hrel
    have hlen := giveTo_len S.units p k
    have hu := hr.cUnits
    by_cases hlt : k < S.units.length
    · have hkl : k < (giveTo S.units p k).length := by omega
      obtain ⟨g', cap', hv', hob', hfr, hc⟩ := unit_cells hr (show 0 < (giveTo S.units p k).length by omega)
      have hgg : g' = g := by injection hv' with e1 e2 e3; injection e1 with e1; injection e1 with e1; exact e1.symm
      subst hgg
      obtain ⟨c0, c1, c2, c3, c4, c5⟩ := hc k hkl
      have f4 := hfr (k * 6 + 4)
      have Hgs : Hid ((giveTo S.units p k)[k]? = some ((giveTo S.units p k).getD k ru0)) := getD_some _ k hkl
      have Hgv : Hid (giveTo S.units p (k + 1) = if ((giveTo S.units p k).getD k ru0).own = p ∧ ((giveTo S.units p k).getD k ru0).kind = 1 then (giveTo S.units p k).set k { (giveTo S.units p k).getD k ru0 with hp := 0 } else giveTo S.units p k) := rfl
      have Hr : Hid (RefAt wr O b { S with units := giveTo S.units p k } gv (.slice (some ⟨g', 0, none⟩) S.units.length cap)) := hr
      have Hkp : Hid (Keep O w wr) := hkp
      clear hc hr hfr hkp hv' hob' hlen hkl
      generalize giveTo S.units p k = us at *
      generalize us.getD k ru0 = u at *
      by_cases hown : u.own = p
      · have hbo : (u.own == p) = true := by simp [hown]
        by_cases hkd : u.kind = 1
        · have hbk : (u.kind == 1) = true := by simp [hkd]
          have Hg2 : Hid (giveTo S.units p (k + 1) = us.set k { u with hp := 0 }) := by unfold Hid; rw [Hgv.out, if_pos ⟨hown, hkd⟩]
          clear hown hkd Hgv
          go_wp2
          go_roundw
          case rel =>
            go_light
            refine ⟨k + 1, by omega, by go_num, ?_, Hkp.out.set (.inl hO)⟩
            rw [Hg2.out]
            exact Hr.out.setHp hob Hgs.out 0
          case measure => simp [intOf]; omega
        · have hbk : (u.kind == 1) = false := by simp [hkd]
          have Hg2 : Hid (giveTo S.units p (k + 1) = us) := by unfold Hid; rw [Hgv.out, if_neg (fun e => hkd e.2)]
          clear hown hkd Hgv
          go_wp2
          go_roundw
          case rel =>
            go_light
            refine ⟨k + 1, by omega, by go_num, ?_, Hkp.out⟩
            rw [Hg2.out]
            exact Hr.out
          case measure => simp [intOf]; omega
      · have hbo : (u.own == p) = false := by simp [hown]
        have Hg2 : Hid (giveTo S.units p (k + 1) = us) := by unfold Hid; rw [Hgv.out, if_neg (fun e => hown e.1)]
        clear hown Hgv
        go_wp2
        go_roundw
        case rel =>
          go_light
          refine ⟨k + 1, by omega, by go_num, ?_, Hkp.out⟩
          rw [Hg2.out]
          exact Hr.out
        case measure => simp [intOf]; omega
    · have : k = S.units.length := by omega
      subst this
      clear hlen
      go_wp2
      exact bodyPost_ret (results_none rfl _ _ _) rfl ⟨rfl, Moved.mk hr hkp⟩

set_option maxHeartbeats 4000000 in
set_option maxRecDepth 100000 in
theorem command_none {w : World} {O : Nat → Prop} {b : Nat} {S : RS} {gv uv : Value} (p un wh x y : Int) (h : RefAt w O b S gv uv) (hI : RInv S) (u0 : 0 ≤ un) (u1 : un ≤ 255) (hng : ¬ (un = 0 ∧ wh = 0 ∧ x = 0 ∧ y = 0)) (hno : un - 1 < 0 ∨ (S.units.length : Int) ≤ un - 1) :
    Calls Tryd.prog 37 #[.pointer (some ⟨b, 0, none⟩), .agg #[.int .i64 p, .int .i64 un, .int .i64 wh, .int .i64 x, .int .i64 y]] w fun e w' => e = .returned (.tuple #[]) ∧ Moved O w b gv S w' := by
  have hn := hI.bounds.1
  have hu0 := hI.u0
  obtain ⟨g, cap, hv, hob, hfr, hc⟩ := unit_cells h hI.u0
  subst hv
  have hu := h.cUnits
  have hbl := h.lt
  have hgl := h.units.lt hob
  have hgne := (h.ou g hob).2.1
  have H0 : Hid (RefAt w O b S gv _) := h
  clear h hc hfr
  have q1 : (un == 0) = false ∨ (un == 0) = true := by cases (un == 0) <;> simp
  have q2 : (wh == 0) = false ∨ (wh == 0) = true := by cases (wh == 0) <;> simp
  have q3 : (x == 0) = false ∨ (x == 0) = true := by cases (x == 0) <;> simp
  have q4 : (y == 0) = false ∨ (y == 0) = true := by cases (y == 0) <;> simp
  have HN : Hid (¬ (un = 0 ∧ wh = 0 ∧ x = 0 ∧ y = 0)) := hng
  clear hng
  have hcase : un - 1 < 0 ∨ (¬ un - 1 < 0 ∧ (S.units.length : Int) ≤ un - 1) := by omega
  clear hno
  have fin : ∀ w', Moved O w b gv S w' → Moved O w b gv S w' := fun _ h => h
  rcases hcase with hlt | ⟨hge, hle⟩
  · rcases q1 with q1 | q1 <;> rcases q2 with q2 | q2 <;> rcases q3 with q3 | q3 <;> rcases q4 with q4 | q4
    all_goals first
      | (exfalso; simp at q1 q2 q3 q4; exact HN.out ⟨q1, q2, q3, q4⟩)
      | (go_enter Tryd.func37, Tryd.ntmps37
         go_wp2
         exact bodyPost_ret (results_none rfl _ _ _) rfl ⟨rfl, Moved.mk (H0.out.alloc _) ((Keep.refl _ _).alloc _)⟩)
  · rcases q1 with q1 | q1 <;> rcases q2 with q2 | q2 <;> rcases q3 with q3 | q3 <;> rcases q4 with q4 | q4
    all_goals first
      | (exfalso; simp at q1 q2 q3 q4; exact HN.out ⟨q1, q2, q3, q4⟩)
      | (go_enter Tryd.func37, Tryd.ntmps37
         go_wp2
         exact bodyPost_ret (results_none rfl _ _ _) rfl ⟨rfl, Moved.mk (H0.out.alloc _) ((Keep.refl _ _).alloc _)⟩)

end Go.Proofs.YtdianedehhecoaaDoor
