/- The document's answer: Bytes. -/
import Derived.Test.YtdianedehhecoaaDoorRefDoes3
import Derived.Deep.RegionHeld3
namespace Go.Proofs.YtdianedehhecoaaDoor
open Go.RowKit
set_option linter.unusedVariables false
set_option linter.unusedSimpArgs false

theorem one_b {B : Nat} {w0 : World} (n : Int) (w : World) (hb : Below B w0 w) (hB : B ≤ w0.heap.size) :
    Calls Tryd.prog 40 #[.int .i64 n] w fun e w' => e = .returned (.string (b1 n)) ∧ Below B w0 w' ∧ (∀ a v, w.cell? a = some v → w'.cell? a = some v) :=
  (one_any n w).mono fun e w' h => ⟨h.1, hb.trans (h.2.mono (by have := hb.size; omega)), fun a v ha => (h.2.cell (cell_lt ha)).trans ha⟩

theorem two_b {B : Nat} {w0 : World} (n : Int) (w : World) (h0 : 0 ≤ n) (h1 : n ≤ 16777215) (hb : Below B w0 w) (hB : B ≤ w0.heap.size) :
    Calls Tryd.prog 39 #[.int .i64 n] w fun e w' => e = .returned (.string (b2 n)) ∧ Below B w0 w' ∧ (∀ a v, w.cell? a = some v → w'.cell? a = some v) :=
  (two_any n w h0 h1).mono fun e w' h => ⟨h.1, hb.trans (h.2.mono (by have := hb.size; omega)), fun a v ha => (h.2.cell (cell_lt ha)).trans ha⟩

set_option maxHeartbeats 4000000 in
set_option maxRecDepth 100000 in
theorem Bytes_any {w : World} {O : Nat → Prop} {b : Nat} {S : RS} {gv uv : Value} (h : RefAt w O b S gv uv) (hI : RInv S) (t0 : 0 ≤ S.turn) (t1 : S.turn ≤ 2000) :
    Calls Tryd.prog 19 #[.pointer (some ⟨b, 0, none⟩)] w fun e w' => e = .returned (.string (bytesF S)) ∧ Below w.heap.size w w' := by
  have hn := hI.bounds.1
  have hu0 := hI.u0
  have g2 := hI.g2
  have g4 := hI.g4
  obtain ⟨g, cap, hv, hob, -, hc⟩ := unit_cells h hI.u0
  obtain ⟨gg, gcap, hgv, gob, -, gc⟩ := gold_cells h (by omega)
  subst hv hgv
  have H0 : Hid (RefAt w O b S _ _) := h
  have ct := h.cTurn
  have cg := h.cGold
  have cu := h.cUnits
  have hbl := h.lt
  have hB : w.heap.size ≤ w.heap.size := Nat.le_refl _
  have hb0 := Below.refl w.heap.size w
  have n1 : (0 : Int) ≤ (S.units.length : Int) := by omega
  have n2 : (S.units.length : Int) ≤ 16777215 := by omega
  have n3 : S.turn ≤ 16777215 := by omega
  have HF : Hid (headF S = b2 S.turn ++ b2 S.units.length ++ b1 S.gold.length) := rfl
  have z1 := b1_size S.gold.length
  have z2 := b2_size S.turn
  have z3 := b2_size S.units.length
  clear h
  go_enter Tryd.func19, Tryd.ntmps19
  go_wp2
  go_region_held3 (fun w' => w'.cell? ⟨b, 0, none⟩ = some (.int .i64 S.turn) ∧ w'.cell? ⟨b, 1, none⟩ = some (.slice (some ⟨gg, 0, none⟩) S.gold.length gcap) ∧ w'.cell? ⟨b, 66, none⟩ = some (.slice (some ⟨g, 0, none⟩) S.units.length cap) ∧ Below w.heap.size w w')
    (first | (simp [*]; done) | (simp [*]; exact Below.drew (Below.refl _ _)))
    (first
      | (go_at_call_of 39 (Value.int .i64 S.turn); refine (two_b (B := w.heap.size) (w0 := w) _ _ t0 n3 ?_ hB).mono ?_; (simp [*]); rintro e w1 ⟨rfl, hb1, hk1⟩)
      | (go_at_call_of 39 (Value.int .i64 (S.units.length : Int)); refine (two_b (B := w.heap.size) (w0 := w) _ _ n1 n2 ?_ hB).mono ?_; (simp [*]); rintro e w1 ⟨rfl, hb1, hk1⟩)
      | (go_at_call 40; refine (one_b (B := w.heap.size) (w0 := w) _ _ ?_ hB).mono ?_; (simp [*]); rintro e w1 ⟨rfl, hb1, hk1⟩))
  clear z1 z2 z3 hb0
  go_wp2
  clear cg ct cu n1 n2 n3 hk1 HF
  have Hhb : Hid (Below w.heap.size w w1) := hb1
  clear hb1
  go_loopw [3, 4] (fun t i wr => ∃ k : Nat, k ≤ S.gold.length ∧ i = .int .i64 k ∧ t = .string (goldTo S k) ∧ Below w.heap.size w wr) (fun _ i _ => S.gold.length - (intOf i).toNat)
  case atStart => exact ⟨0, Nat.zero_le _, rfl, rfl, Hhb.out⟩
  case round =>
    clear Hhb
    obtain ⟨k, hk, rfl, rfl, hbel⟩ := hrel
    have hr := H0.out.below hbel
    have cg := hr.cGold
    have zs := goldTo_size S k
    by_cases hlt : k < S.gold.length
    · have gk := (hbel.cell (p := ⟨gg, k, none⟩) (H0.out.gold.lt gob)).trans (gc k hlt)
      have p1 := hI.gpos k
      have p2 := hI.bounds.2.1 k
      have z2 := b2_size (S.gold.getD k 0)
      have HG : Hid (goldTo S (k + 1) = goldTo S k ++ b2 (S.gold.getD k 0)) := rfl
      have zs' : (goldTo S k).size ≤ 20 := by omega
      clear zs hr hc gc
      generalize goldTo S k = T at *
      generalize S.gold.getD k 0 = x at *
      go_wp2_with (go_at_call 39; refine (two_b (B := w.heap.size) (w0 := w) _ _ p1 (by omega) hbel hB).mono ?_; rintro e w2 ⟨rfl, hb2, hk2⟩)
      go_roundw
      case rel => exact ⟨k + 1, by omega, by go_num, by rw [HG.out], hb2⟩
      case measure => simp [intOf]; omega
    · have hkk : goldTo S k = oreTo S 0 := by have : k = S.gold.length := by omega
                                              rw [this]; rfl
      rw [hkk]
      clear zs hr hkk
      have Hhb : Hid (Below w.heap.size w wr) := hbel
      clear hbel
      go_wp2
      clear cg
      go_loopw [3, 5] (fun t i wq => ∃ j : Nat, j ≤ 64 ∧ i = .int .i64 j ∧ t = .string (oreTo S j) ∧ Below w.heap.size w wq) (fun _ i _ => 64 - (intOf i).toNat)
      case atStart => exact ⟨0, Nat.zero_le _, rfl, rfl, Hhb.out⟩
      case round =>
        clear Hhb
        obtain ⟨j, hj, rfl, rfl, hbel⟩ := hrel
        have hr := H0.out.below hbel
        have zs := oreTo_size S j
        by_cases hlt2 : j < 64
        · have co := hr.cOre hlt2
          have z1 := b1_size (S.ore.getD j 0)
          have HG : Hid (oreTo S (j + 1) = oreTo S j ++ b1 (S.ore.getD j 0)) := rfl
          have zs' : (oreTo S j).size ≤ 200 := by omega
          have hji : (j : Int) < 64 := by omega
          clear zs hr hc gc
          generalize oreTo S j = T at *
          generalize S.ore.getD j 0 = x at *
          go_wp2_with (go_at_call 40; refine (one_b (B := w.heap.size) (w0 := w) _ _ hbel hB).mono ?_; rintro e w2 ⟨rfl, hb2, hk2⟩)
          go_roundw
          case rel => exact ⟨j + 1, by omega, by go_num, by rw [HG.out], hb2⟩
          case measure => simp [intOf]; omega
        · have hj6 : j = 64 := by omega
          subst hj6
          have HU : Hid (unitTo S 0 = oreTo S 64 ++ b1 (thereF S.units)) := rfl
          have z1 := b1_size (thereF S.units)
          have zs' : (oreTo S 64).size ≤ 200 := by omega
          have hn' : S.units.length ≤ 1000000 := by omega
          clear zs
          generalize oreTo S 64 = T at *
          go_wp2_with (first
            | (go_at_call 41; refine (there_any hr hu0 hn').mono ?_; rintro e w2 ⟨rfl, rfl⟩)
            | (go_at_call 40; refine (one_b (B := w.heap.size) (w0 := w) _ _ hbel hB).mono ?_; rintro e w2 ⟨rfl, hb2, hk2⟩))
          clear hr hbel hk2 z1 zs'
          have Hhb : Hid (Below w.heap.size w w2) := hb2
          clear hb2
          go_loopw [3, 7] (fun t i wq => ∃ q : Nat, q ≤ S.units.length ∧ i = .int .i64 q ∧ t = .string (unitTo S q) ∧ Below w.heap.size w wq) (fun _ i _ => S.units.length - (intOf i).toNat)
          case atStart => exact ⟨0, Nat.zero_le _, rfl, by rw [HU.out], Hhb.out⟩
          case round =>
            clear Hhb HU
            obtain ⟨q, hq, rfl, rfl, hbel⟩ := hrel
            have hr := H0.out.below hbel
            have cu := hr.cUnits
            have zs := unitTo_size S q
            have hsz := hbel.size
            by_cases hlt3 : q < S.units.length
            · obtain ⟨c0, c1, c2, c3, c4, c5⟩ := hc q hlt3
              have hgl := H0.out.units.lt hob
              have d0 := (hbel.cell (p := ⟨g, q * 6, none⟩) hgl).trans c0
              have d1 := (hbel.cell (p := ⟨g, q * 6 + 1, none⟩) hgl).trans c1
              have d2 := (hbel.cell (p := ⟨g, q * 6 + 2, none⟩) hgl).trans c2
              have d3 := (hbel.cell (p := ⟨g, q * 6 + 3, none⟩) hgl).trans c3
              have d4 := (hbel.cell (p := ⟨g, q * 6 + 4, none⟩) hgl).trans c4
              have d5 := (hbel.cell (p := ⟨g, q * 6 + 5, none⟩) hgl).trans c5
              have HG : Hid (unitTo S (q + 1) = if 0 < (S.units.getD q ru0).hp then unitTo S q ++ b2 (q + 1) ++ b1 (S.units.getD q ru0).own ++ b1 (S.units.getD q ru0).kind ++ b1 (S.units.getD q ru0).x ++ b1 (S.units.getD q ru0).y ++ b1 (S.units.getD q ru0).hp else unitTo S q) := rfl
              have zs' : (unitTo S q).size ≤ 2000 := by omega
              clear zs hr hc gc c0 c1 c2 c3 c4 c5
              generalize unitTo S q = T at *
              generalize S.units.getD q ru0 = u at *
              have m0 : (0 : Int) ≤ (q : Int) + 1 := by omega
              have m1 : (q : Int) + 1 ≤ 16777215 := by omega
              by_cases hp : 0 < u.hp
              · rw [if_pos hp] at HG
                have z0 := b2_size (q + 1)
                have z1 := b1_size u.own
                have z2 := b1_size u.kind
                have z3 := b1_size u.x
                have z4 := b1_size u.y
                have z5 := b1_size u.hp
                have Hbel : Hid (Below w.heap.size w wr) := hbel
                go_wp2
                have hba : Below w.heap.size w (wr.alloc (.cells #[.int .i64 u.own, .int .i64 u.kind, .int .i64 u.x, .int .i64 u.y, .int .i64 u.hp, .bool u.busy] 91)) := hbel.alloc hsz _
                have k0 : (wr.alloc (.cells #[.int .i64 u.own, .int .i64 u.kind, .int .i64 u.x, .int .i64 u.y, .int .i64 u.hp, .bool u.busy] 91)).cell? ⟨wr.heap.size, 0, none⟩ = some (.int .i64 u.own) := by simp
                have k1 : (wr.alloc (.cells #[.int .i64 u.own, .int .i64 u.kind, .int .i64 u.x, .int .i64 u.y, .int .i64 u.hp, .bool u.busy] 91)).cell? ⟨wr.heap.size, 1, none⟩ = some (.int .i64 u.kind) := by simp
                have k2 : (wr.alloc (.cells #[.int .i64 u.own, .int .i64 u.kind, .int .i64 u.x, .int .i64 u.y, .int .i64 u.hp, .bool u.busy] 91)).cell? ⟨wr.heap.size, 2, none⟩ = some (.int .i64 u.x) := by simp
                have k3 : (wr.alloc (.cells #[.int .i64 u.own, .int .i64 u.kind, .int .i64 u.x, .int .i64 u.y, .int .i64 u.hp, .bool u.busy] 91)).cell? ⟨wr.heap.size, 3, none⟩ = some (.int .i64 u.y) := by simp
                have k4 : (wr.alloc (.cells #[.int .i64 u.own, .int .i64 u.kind, .int .i64 u.x, .int .i64 u.y, .int .i64 u.hp, .bool u.busy] 91)).cell? ⟨wr.heap.size, 4, none⟩ = some (.int .i64 u.hp) := by simp
                clear d0 d1 d2 d3 d4 d5 cu hbel Hbel
                generalize wr.alloc (.cells #[.int .i64 u.own, .int .i64 u.kind, .int .i64 u.x, .int .i64 u.y, .int .i64 u.hp, .bool u.busy] 91) = W at *
                generalize wr.heap.size = L at *
                have r0 : ∀ W : World, (Op.stringOp .add (T) (b2 ((q : Int) + 1))).run Tryd.prog W = .ok (.string (T ++ b2 ((q : Int) + 1))) W := fun W => run_string_add_sum W _ _ (by first | omega | (simp only [ByteArray.size_append, b1_size, b2_size]; omega))
                have r1 : ∀ W : World, (Op.stringOp .add (T ++ b2 ((q : Int) + 1)) (b1 u.own)).run Tryd.prog W = .ok (.string (T ++ b2 ((q : Int) + 1) ++ b1 u.own)) W := fun W => run_string_add_sum W _ _ (by first | omega | (simp only [ByteArray.size_append, b1_size, b2_size]; omega))
                have r2 : ∀ W : World, (Op.stringOp .add (T ++ b2 ((q : Int) + 1) ++ b1 u.own) (b1 u.kind)).run Tryd.prog W = .ok (.string (T ++ b2 ((q : Int) + 1) ++ b1 u.own ++ b1 u.kind)) W := fun W => run_string_add_sum W _ _ (by first | omega | (simp only [ByteArray.size_append, b1_size, b2_size]; omega))
                have r3 : ∀ W : World, (Op.stringOp .add (T ++ b2 ((q : Int) + 1) ++ b1 u.own ++ b1 u.kind) (b1 u.x)).run Tryd.prog W = .ok (.string (T ++ b2 ((q : Int) + 1) ++ b1 u.own ++ b1 u.kind ++ b1 u.x)) W := fun W => run_string_add_sum W _ _ (by first | omega | (simp only [ByteArray.size_append, b1_size, b2_size]; omega))
                have r4 : ∀ W : World, (Op.stringOp .add (T ++ b2 ((q : Int) + 1) ++ b1 u.own ++ b1 u.kind ++ b1 u.x) (b1 u.y)).run Tryd.prog W = .ok (.string (T ++ b2 ((q : Int) + 1) ++ b1 u.own ++ b1 u.kind ++ b1 u.x ++ b1 u.y)) W := fun W => run_string_add_sum W _ _ (by first | omega | (simp only [ByteArray.size_append, b1_size, b2_size]; omega))
                have r5 : ∀ W : World, (Op.stringOp .add (T ++ b2 ((q : Int) + 1) ++ b1 u.own ++ b1 u.kind ++ b1 u.x ++ b1 u.y) (b1 u.hp)).run Tryd.prog W = .ok (.string (T ++ b2 ((q : Int) + 1) ++ b1 u.own ++ b1 u.kind ++ b1 u.x ++ b1 u.y ++ b1 u.hp)) W := fun W => run_string_add_sum W _ _ (by first | omega | (simp only [ByteArray.size_append, b1_size, b2_size]; omega))
                have HW : Hid (IntKind.i64.wrap ((q : Int) + 1) = (q : Int) + 1) := by unfold Hid; simp [IntKind.wrap, IntKind.bits, IntKind.signed]; omega
                go_region_held3 (fun w' => w'.cell? ⟨L, 0, none⟩ = some (.int .i64 u.own) ∧ w'.cell? ⟨L, 1, none⟩ = some (.int .i64 u.kind) ∧ w'.cell? ⟨L, 2, none⟩ = some (.int .i64 u.x) ∧ w'.cell? ⟨L, 3, none⟩ = some (.int .i64 u.y) ∧ w'.cell? ⟨L, 4, none⟩ = some (.int .i64 u.hp) ∧ Below w.heap.size w w')
                  (first | (simp [*]; done) | (simp [*]; exact hba.drew))
                  (first
                    | (go_at_call 39; rw [HW.out]; refine (two_b (B := w.heap.size) (w0 := w) _ _ m0 m1 ?_ hB).mono ?_; (first | exact hba.drew | assumption | (simp [*]; done)); rintro e w1 ⟨rfl, hb1, hk1⟩)
                    | (go_at_call 40; refine (one_b (B := w.heap.size) (w0 := w) _ _ ?_ hB).mono ?_; (first | exact hba.drew | assumption | (simp [*]; done)); rintro e w1 ⟨rfl, hb1, hk1⟩))
                go_wp2
                go_light
                exact ⟨⟨q + 1, by omega, by go_num, by rw [HG.out], hb1⟩, by simp [intOf]; omega⟩
              · rw [if_neg hp] at HG
                go_wp2
                go_roundw
                case rel => exact ⟨q + 1, by omega, by go_num, by rw [HG.out], hbel.alloc hsz _⟩
                case measure => simp [intOf]; omega
            · have : q = S.units.length := by omega
              have Hf : Hid (bytesF S = unitTo S q) := by rw [this]; rfl
              clear this zs
              generalize unitTo S q = T at *
              go_wp2
              go_ret
              exact ⟨by rw [Hf.out]; rfl, hbel⟩

end Go.Proofs.YtdianedehhecoaaDoor
