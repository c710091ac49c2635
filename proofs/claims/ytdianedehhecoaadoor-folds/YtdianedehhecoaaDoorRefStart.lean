/- The document's answer: Start. -/
import Derived.Test.YtdianedehhecoaaDoorRefReads
namespace Go.Proofs.YtdianedehhecoaaDoor
open Go.RowKit
set_option linter.unusedVariables false
set_option linter.unusedSimpArgs false

theorem RefAt.pushGold {w w2 : World} {O : Nat → Prop} {b : Nat} {S : RS} {gv uv gv' : Value} {gs : List Int} (h : RefAt w O b S gv uv) (hk : Keep O w w2)
    (hst : BlkAt w2 b (stCells S gv uv) 86) (hunits : RowAt w2 91 6 uv S.units.length (uCells S.units)) (hrow : RowAt w2 3 1 gv' gs.length (iCells gs))
    (hob : ∀ k, gv'.ownBlock = some k → (O k ∨ w.heap.size ≤ k) ∧ k ≠ b ∧ uv.ownBlock ≠ some k) :
    RefAt (w2.setCell ⟨b, 1, none⟩ gv') (fun k => O k ∨ w.heap.size ≤ k) b { S with gold := gs } gv' uv ∧ Keep O w (w2.setCell ⟨b, 1, none⟩ gv') :=
  ⟨⟨h.ore, by have := hst.set 1 gv'; rwa [stCells_gold S gv uv gv' gs] at this, hrow.other (fun e => (hob b e).2.1 rfl), hunits.other (fun e => (h.ou b e).2.1 rfl), .inl h.ob,
    fun k e => ⟨(hob k e).1, (hob k e).2.1⟩, fun k e => ⟨.inl (h.ou k e).1, (h.ou k e).2.1, fun e2 => (hob k e2).2.2 e⟩⟩, hk.set (.inl h.ob)⟩

set_option maxHeartbeats 4000000 in
set_option maxRecDepth 100000 in
theorem Start_any (seed : Int) (players : Nat) (w : World) (s0 : 0 ≤ seed) (s1 : seed ≤ 999) (p1 : players ≤ 4) :
    Calls Tryd.prog 16 #[.int .i64 seed, .int .i64 players] w fun e w' => e = .returned (.pointer (some ⟨w.heap.size, 0, none⟩)) ∧ (∃ gv uv, RefAt w' (fun k => w.heap.size ≤ k) w.heap.size (startTo seed players) gv uv) ∧ Below w.heap.size w w' := by
  go_enter Tryd.func16, Tryd.ntmps16
  go_wp2
  go_loopw [6] (fun i wr => ∃ k : Nat, k ≤ 64 ∧ i = .int .i64 k ∧ RefAt wr (fun k => w.heap.size ≤ k) w.heap.size ⟨0, [], oreS seed k, []⟩ (.slice none 0 0) (.slice none 0 0) ∧ Below w.heap.size w wr) (fun i _ => 64 - (intOf i).toNat)
  case atStart =>
    refine ⟨0, Nat.zero_le _, rfl, ⟨rfl, ?_, ⟨rfl, .inl ⟨rfl, rfl⟩⟩, ⟨rfl, .inl ⟨rfl, rfl⟩⟩, Nat.le_refl _, fun k e => (by cases e), fun k e => (by cases e)⟩, (Below.refl _ _).alloc (Nat.le_refl _) _⟩
    exact BlkAt.new w (stCells ⟨0, [], oreS seed 0, []⟩ (.slice none 0 0) (.slice none 0 0)) 86
  case round =>
    obtain ⟨k, hk, rfl, hr, hbel⟩ := hrel
    by_cases hlt : k < 64
    · have HO : Hid (oreS seed (k + 1) = if 0 < oreN seed k then (oreS seed k).set k (oreN seed k) else oreS seed k) := rfl
      have HN : Hid (oreN seed k = (seed + 3 * ((k : Int) % 8) + 5 * ((k : Int) / 8) + ((k : Int) % 8) * ((k : Int) / 8)) % 7 - 3) := rfl
      have hx0 : 0 ≤ (k : Int) % 8 := by omega
      have hx1 : (k : Int) % 8 ≤ 7 := by omega
      have hy0 : 0 ≤ (k : Int) / 8 := by omega
      have hy1 : (k : Int) / 8 ≤ 7 := by omega
      have hm0 : 0 ≤ ((k : Int) % 8) * ((k : Int) / 8) := Int.mul_nonneg hx0 hy0
      have hm1 : ((k : Int) % 8) * ((k : Int) / 8) ≤ 49 := by
        have := Int.mul_le_mul hx1 hy1 hy0 (by omega : (0 : Int) ≤ 7)
        omega
      have co := hr.cOre hlt
      have fo := hr.st.free (2 + k)
      have hki : (k : Int) < 64 := by omega
      have Hr : Hid (RefAt wr (fun k => w.heap.size ≤ k) w.heap.size ⟨0, [], oreS seed k, []⟩ (.slice none 0 0) (.slice none 0 0)) := hr
      clear hr
      go_wp2
      · go_light
        rename_i hpos
        refine ⟨⟨k + 1, by omega, by go_num, ?_, bel_set hbel (Nat.le_refl _)⟩, by simp [intOf]; omega⟩
        rw [HO.out, HN.out, if_pos (by omega)]
        exact Hr.out.setOre k hlt _
      · go_light
        rename_i hpos
        refine ⟨⟨k + 1, by omega, by go_num, ?_, hbel⟩, by simp [intOf]; omega⟩
        rw [HO.out, HN.out, if_neg (by omega)]
        exact Hr.out
    · have hk64 : k = 64 := by omega
      subst hk64
      obtain ⟨i0, hi, hz0, hz1, hz2⟩ := info_parts infoInt
      have Hbel : Hid (Below w.heap.size w wr) := hbel
      have Hr : Hid (RefAt wr (fun k => w.heap.size ≤ k) w.heap.size ⟨0, [], oreS seed 64, []⟩ (.slice none 0 0) (.slice none 0 0)) := hr
      clear hr hbel
      go_wp2
      go_loopw [10] (fun i wq => ∃ p : Nat, p ≤ players ∧ i = .int .i64 p ∧ (∃ gv uv, RefAt wq (fun k => w.heap.size ≤ k) w.heap.size (startTo seed p) gv uv) ∧ Below w.heap.size w wq) (fun i _ => players - (intOf i).toNat)
      case atStart => exact ⟨0, Nat.zero_le _, rfl, ⟨_, _, Hr.out⟩, Hbel.out⟩
      case round =>
        clear Hr Hbel
        obtain ⟨p, hp, rfl, ⟨gv, uv, hr⟩, hbel⟩ := hrel
        by_cases hlt : p < players
        · have hgl : (startTo seed p).gold.length ≤ 4 := by have := startTo_gold seed p; omega
          have hul : (startTo seed p).units.length ≤ 8 := by have := startTo_units seed p; omega
          have HS : Hid (startTo seed (p + 1) = { startTo seed p with gold := (startTo seed p).gold ++ [2], units := (startTo seed p).units ++ [⟨p, 1, cornerX p, cornerY p, 20, true⟩] ++ [⟨p, 2, cornerX p + 1 - cornerX p / 7 * 2, cornerY p + 1 - cornerY p / 7 * 2, 5, true⟩] }) := rfl
          have cg := hr.cGold
          have hsz := hbel.size
          have Hr : Hid (RefAt wr (fun k => w.heap.size ≤ k) w.heap.size (startTo seed p) gv uv) := hr
          have hbl := hr.lt
          have hpl : (p : Int) < (players : Int) := by omega
          generalize startTo seed p = S at *
          go_wp2_with (at_builtin; refine wpList_append_own_at _ rfl _ _ 48 rfl 0 3 i0 _ 1 8 Tryd.underlying48 hi hz0 hz1 hz2 rfl (by decide) _ _ _ rfl (RowAt.alloc Hr.out.gold _) ⟨wr.heap.size, 0, none⟩ 1 1 [.int .i64 2] rfl rfl ?c1 ?c2 ?c3 ?c4 ?c5 ?_)
          case c2 => rfl
          case c3 => unfold maxLen; omega
          case c4 => omega
          · intro v' w2 hown hg hnil hob
            have h := Hr.out
            have hblk : w2.heap[w.heap.size]? = wr.heap[w.heap.size]? := by
              rw [hg.block w.heap.size (by simp; omega) (fun e => (h.og _ e.symm).2 rfl), Below.heap_alloc _ _ _ (by omega)]
            have hst2 := h.st.same hblk
            have hc2 : w2.cell? ⟨w.heap.size, 1, none⟩ = some gv := (World.cell?_of_block (w := wr) (a := ⟨w.heap.size, 1, none⟩) hblk).trans cg
            have hf2 := hst2.free 1
            have hown' : RowAt w2 3 1 v' (S.gold.length + 1) _ := hown
            obtain ⟨g', cap', hv', -, -, -, -, -⟩ := hown'.form (by omega)
            have hk2 : Keep (fun k => w.heap.size ≤ k) wr w2 := ((Keep.refl _ _).alloc _).grown hg (fun k e => .inl (h.og k e).1)
            have hfin := RefAt.pushGold (gv' := v') (gs := S.gold ++ [2]) h hk2 hst2
              (h.units.same fun k e => by
                rw [hg.block k (by have := h.units.lt e; simp; omega) (fun e2 => (h.ou k e).2.2 e2.symm), Below.heap_alloc _ _ _ (by have := h.units.lt e; omega)])
              (by have e2 : iCells (S.gold ++ [2]) = iCells S.gold ++ [.int .i64 2] := by simp [iCells]
                  rw [e2, List.length_append]; exact hown')
              (fun k e => by
                rcases hob with e2 | e2
                · rw [e2] at e
                  exact ⟨.inl (h.og k e).1, (h.og k e).2, fun e3 => (h.ou k e3).2.2 e⟩
                · rw [e2] at e
                  have hkk : k = wr.heap.size + 1 := by injection e with e; simpa using e.symm
                  refine ⟨.inr (by omega), by omega, fun e3 => ?_⟩
                  have := h.units.lt e3
                  omega)
            have hbw2 : Below w.heap.size w w2 := (hbel.alloc hsz _).grown hg (by simp; omega) (fun k e => (h.og k e).1)
            subst hv'
            have Hfin := (show Hid _ from hfin)
            have Hbw2 := (show Hid (Below w.heap.size w w2) from hbw2)
            have hsz2 := hbw2.size
            clear hblk hst2 hown hown' hfin hg hnil hob hk2 cg h hr hbel hi hz0 hz1 hz2 Hr hbw2
            have hpc : p = 0 ∨ p = 1 ∨ p = 2 ∨ p = 3 := by omega
            rcases hpc with rfl | rfl | rfl | rfl
            · go_wp2_with fail
              refine (add_any 0 1 0 0 Hfin.out.1 (by show S.units.length ≤ 1000000; omega) (by omega) (by omega)).mono ?_
              rintro e w3 ⟨rfl, hm3⟩
              obtain ⟨⟨uv3, h3⟩, hk3⟩ := hm3
              have H3 := (show Hid _ from h3)
              have Hk3 := (show Hid _ from hk3)
              clear h3 hk3
              go_wp2_with fail
              refine (add_any 0 2 1 1 H3.out (by show (S.units ++ _).length ≤ 1000000; simp; omega) (by omega) (by omega)).mono ?_
              rintro e w4 ⟨rfl, hm4⟩
              obtain ⟨⟨uv4, h4⟩, hk4⟩ := hm4
              have hfin4 : ∃ q : Nat, q ≤ players ∧ Value.int .i64 1 = .int .i64 q ∧ (∃ gv uv, RefAt w4 (fun k => w.heap.size ≤ k) w.heap.size (startTo seed q) gv uv) ∧ Below w.heap.size w w4 := by
                have z3 := Hk3.out.size
                have z4 := hk4.size
                simp only [World.heap_setCell_size] at z3
                refine ⟨1, by omega, rfl, ⟨.slice (some ⟨g', 0, none⟩) (S.gold.length + 1) cap', uv4, ?_⟩, ?_⟩
                · rw [HS.out]
                  exact h4.grow (fun j hj => by rcases hj with ((hj | hj) | hj) | hj <;> (try simp only [World.heap_setCell_size] at hj) <;> omega)
                · have c1 : Below w.heap.size w (w2.setCell ⟨w.heap.size, 1, none⟩ (.slice (some ⟨g', 0, none⟩) (S.gold.length + 1) cap')) := bel_set Hbw2.out (Nat.le_refl _)
                  have c2 := c1.trans (Hk3.out.below (B := w.heap.size) (fun j hj => by rcases hj with hj | hj <;> omega) (by simp only [World.heap_setCell_size]; omega))
                  exact c2.trans (hk4.below (B := w.heap.size) (fun j hj => by rcases hj with (hj | hj) | hj <;> (try simp only [World.heap_setCell_size] at hj) <;> omega) (by omega))
              have Hfin4 := (show Hid _ from hfin4)
              clear hfin4 h4 hk4
              go_wp2
              go_roundw
              case rel =>
                go_light
                first | exact Hfin4.out | ((repeat apply Exists.intro); exact ⟨Hfin4.out, rfl⟩)
              case measure => simp [intOf]; omega
            · go_wp2_with fail
              refine (add_any 1 1 7 7 Hfin.out.1 (by show S.units.length ≤ 1000000; omega) (by omega) (by omega)).mono ?_
              rintro e w3 ⟨rfl, hm3⟩
              obtain ⟨⟨uv3, h3⟩, hk3⟩ := hm3
              have H3 := (show Hid _ from h3)
              have Hk3 := (show Hid _ from hk3)
              clear h3 hk3
              go_wp2_with fail
              refine (add_any 1 2 6 6 H3.out (by show (S.units ++ _).length ≤ 1000000; simp; omega) (by omega) (by omega)).mono ?_
              rintro e w4 ⟨rfl, hm4⟩
              obtain ⟨⟨uv4, h4⟩, hk4⟩ := hm4
              have hfin4 : ∃ q : Nat, q ≤ players ∧ Value.int .i64 2 = .int .i64 q ∧ (∃ gv uv, RefAt w4 (fun k => w.heap.size ≤ k) w.heap.size (startTo seed q) gv uv) ∧ Below w.heap.size w w4 := by
                have z3 := Hk3.out.size
                have z4 := hk4.size
                simp only [World.heap_setCell_size] at z3
                refine ⟨2, by omega, rfl, ⟨.slice (some ⟨g', 0, none⟩) (S.gold.length + 1) cap', uv4, ?_⟩, ?_⟩
                · rw [HS.out]
                  exact h4.grow (fun j hj => by rcases hj with ((hj | hj) | hj) | hj <;> (try simp only [World.heap_setCell_size] at hj) <;> omega)
                · have c1 : Below w.heap.size w (w2.setCell ⟨w.heap.size, 1, none⟩ (.slice (some ⟨g', 0, none⟩) (S.gold.length + 1) cap')) := bel_set Hbw2.out (Nat.le_refl _)
                  have c2 := c1.trans (Hk3.out.below (B := w.heap.size) (fun j hj => by rcases hj with hj | hj <;> omega) (by simp only [World.heap_setCell_size]; omega))
                  exact c2.trans (hk4.below (B := w.heap.size) (fun j hj => by rcases hj with (hj | hj) | hj <;> (try simp only [World.heap_setCell_size] at hj) <;> omega) (by omega))
              have Hfin4 := (show Hid _ from hfin4)
              clear hfin4 h4 hk4
              go_wp2
              go_roundw
              case rel =>
                go_light
                first | exact Hfin4.out | ((repeat apply Exists.intro); exact ⟨Hfin4.out, rfl⟩)
              case measure => simp [intOf]; omega
            · go_wp2_with fail
              refine (add_any 2 1 7 0 Hfin.out.1 (by show S.units.length ≤ 1000000; omega) (by omega) (by omega)).mono ?_
              rintro e w3 ⟨rfl, hm3⟩
              obtain ⟨⟨uv3, h3⟩, hk3⟩ := hm3
              have H3 := (show Hid _ from h3)
              have Hk3 := (show Hid _ from hk3)
              clear h3 hk3
              go_wp2_with fail
              refine (add_any 2 2 6 1 H3.out (by show (S.units ++ _).length ≤ 1000000; simp; omega) (by omega) (by omega)).mono ?_
              rintro e w4 ⟨rfl, hm4⟩
              obtain ⟨⟨uv4, h4⟩, hk4⟩ := hm4
              have hfin4 : ∃ q : Nat, q ≤ players ∧ Value.int .i64 3 = .int .i64 q ∧ (∃ gv uv, RefAt w4 (fun k => w.heap.size ≤ k) w.heap.size (startTo seed q) gv uv) ∧ Below w.heap.size w w4 := by
                have z3 := Hk3.out.size
                have z4 := hk4.size
                simp only [World.heap_setCell_size] at z3
                refine ⟨3, by omega, rfl, ⟨.slice (some ⟨g', 0, none⟩) (S.gold.length + 1) cap', uv4, ?_⟩, ?_⟩
                · rw [HS.out]
                  exact h4.grow (fun j hj => by rcases hj with ((hj | hj) | hj) | hj <;> (try simp only [World.heap_setCell_size] at hj) <;> omega)
                · have c1 : Below w.heap.size w (w2.setCell ⟨w.heap.size, 1, none⟩ (.slice (some ⟨g', 0, none⟩) (S.gold.length + 1) cap')) := bel_set Hbw2.out (Nat.le_refl _)
                  have c2 := c1.trans (Hk3.out.below (B := w.heap.size) (fun j hj => by rcases hj with hj | hj <;> omega) (by simp only [World.heap_setCell_size]; omega))
                  exact c2.trans (hk4.below (B := w.heap.size) (fun j hj => by rcases hj with (hj | hj) | hj <;> (try simp only [World.heap_setCell_size] at hj) <;> omega) (by omega))
              have Hfin4 := (show Hid _ from hfin4)
              clear hfin4 h4 hk4
              go_wp2
              go_roundw
              case rel =>
                go_light
                first | exact Hfin4.out | ((repeat apply Exists.intro); exact ⟨Hfin4.out, rfl⟩)
              case measure => simp [intOf]; omega
            · go_wp2_with fail
              refine (add_any 3 1 0 7 Hfin.out.1 (by show S.units.length ≤ 1000000; omega) (by omega) (by omega)).mono ?_
              rintro e w3 ⟨rfl, hm3⟩
              obtain ⟨⟨uv3, h3⟩, hk3⟩ := hm3
              have H3 := (show Hid _ from h3)
              have Hk3 := (show Hid _ from hk3)
              clear h3 hk3
              go_wp2_with fail
              refine (add_any 3 2 1 6 H3.out (by show (S.units ++ _).length ≤ 1000000; simp; omega) (by omega) (by omega)).mono ?_
              rintro e w4 ⟨rfl, hm4⟩
              obtain ⟨⟨uv4, h4⟩, hk4⟩ := hm4
              have hfin4 : ∃ q : Nat, q ≤ players ∧ Value.int .i64 4 = .int .i64 q ∧ (∃ gv uv, RefAt w4 (fun k => w.heap.size ≤ k) w.heap.size (startTo seed q) gv uv) ∧ Below w.heap.size w w4 := by
                have z3 := Hk3.out.size
                have z4 := hk4.size
                simp only [World.heap_setCell_size] at z3
                refine ⟨4, by omega, rfl, ⟨.slice (some ⟨g', 0, none⟩) (S.gold.length + 1) cap', uv4, ?_⟩, ?_⟩
                · rw [HS.out]
                  exact h4.grow (fun j hj => by rcases hj with ((hj | hj) | hj) | hj <;> (try simp only [World.heap_setCell_size] at hj) <;> omega)
                · have c1 : Below w.heap.size w (w2.setCell ⟨w.heap.size, 1, none⟩ (.slice (some ⟨g', 0, none⟩) (S.gold.length + 1) cap')) := bel_set Hbw2.out (Nat.le_refl _)
                  have c2 := c1.trans (Hk3.out.below (B := w.heap.size) (fun j hj => by rcases hj with hj | hj <;> omega) (by simp only [World.heap_setCell_size]; omega))
                  exact c2.trans (hk4.below (B := w.heap.size) (fun j hj => by rcases hj with (hj | hj) | hj <;> (try simp only [World.heap_setCell_size] at hj) <;> omega) (by omega))
              have Hfin4 := (show Hid _ from hfin4)
              clear hfin4 h4 hk4
              go_wp2
              go_roundw
              case rel =>
                go_light
                first | exact Hfin4.out | ((repeat apply Exists.intro); exact ⟨Hfin4.out, rfl⟩)
              case measure => simp [intOf]; omega
        · have : p = players := by omega
          subst this
          go_wp2
          go_ret
          exact ⟨rfl, ⟨_, _, hr⟩, hbel⟩

end Go.Proofs.YtdianedehhecoaaDoor
