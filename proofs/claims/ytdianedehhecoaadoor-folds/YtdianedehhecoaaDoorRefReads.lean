/- The document's answer's state: what it is, and how it lies in memory. -/
import Derived.Test.YtdianedehhecoaaDoorRefPure
import Derived.Test.YtdianedehhecoaaDoorBase
import Derived.Test.YtdianedehhecoaaDoorRefLeaf
namespace Go.Proofs.YtdianedehhecoaaDoor
open Go.RowKit
set_option linter.unusedVariables false
set_option linter.unusedSimpArgs false

def RU.cells (u : RU) : List Value := [.int .i64 u.own, .int .i64 u.kind, .int .i64 u.x, .int .i64 u.y, .int .i64 u.hp, .bool u.busy]

def uCells (us : List RU) : List Value := us.flatMap RU.cells

def iCells (l : List Int) : List Value := l.map (.int .i64)

theorem uCells_len (us : List RU) : (uCells us).length = us.length * 6 := by
  unfold uCells
  induction us with
  | nil => rfl
  | cons u us ih => simp only [List.flatMap_cons, List.length_append, ih, List.length_cons, RU.cells, List.length_nil]; omega

theorem uCells_get (us : List RU) (k f : Nat) (u : RU) (v : Value) (hk : us[k]? = some u) (hf : u.cells[f]? = some v) : (uCells us)[k * 6 + f]? = some v := by
  have hf6 : f < 6 := by
    have := (List.getElem?_eq_some_iff.1 hf).1
    simpa [RU.cells] using this
  induction us generalizing k with
  | nil => simp at hk
  | cons u0 us ih =>
    cases k with
    | zero =>
      simp at hk; subst hk
      unfold uCells
      rw [List.flatMap_cons, List.getElem?_append_left (by simp [RU.cells]; omega)]
      simpa using hf
    | succ k =>
      have := ih k (by simpa using hk)
      unfold uCells at *
      rw [List.flatMap_cons, List.getElem?_append_right (by simp [RU.cells]; omega)]
      rw [← this]
      congr 1
      simp [RU.cells]; omega

theorem uCells_set (us : List RU) (k f : Nat) (u u' : RU) (v : Value) (hk : us[k]? = some u) (hf : f < 6) (h : u.cells.set f v = u'.cells) : (uCells us).set (k * 6 + f) v = uCells (us.set k u') := by
  induction us generalizing k with
  | nil => simp at hk
  | cons u0 us ih =>
    cases k with
    | zero =>
      simp at hk; subst hk
      unfold uCells
      rw [List.set_cons_zero, List.flatMap_cons, List.flatMap_cons, List.set_append_left _ _ (by simp [RU.cells]; omega), ← h]
      simp
    | succ k =>
      have := ih k (by simpa using hk)
      unfold uCells at *
      rw [List.set_cons_succ, List.flatMap_cons, List.flatMap_cons, List.set_append_right _ _ (by simp [RU.cells]; omega), ← this]
      congr 2
      simp [RU.cells]; omega

def stCells (S : RS) (gv uv : Value) : List Value := [.int .i64 S.turn, gv] ++ iCells S.ore ++ [uv]

/-- at block b lies the state S; its blocks are among O -/
structure RefAt (w : World) (O : Nat → Prop) (b : Nat) (S : RS) (gv uv : Value) : Prop where
  ore : S.ore.length = 64
  st : BlkAt w b (stCells S gv uv) 86
  gold : RowAt w 3 1 gv S.gold.length (iCells S.gold)
  units : RowAt w 91 6 uv S.units.length (uCells S.units)
  ob : O b
  og : ∀ k, gv.ownBlock = some k → O k ∧ k ≠ b
  ou : ∀ k, uv.ownBlock = some k → O k ∧ k ≠ b ∧ gv.ownBlock ≠ some k

theorem RefAt.cTurn {w : World} {O : Nat → Prop} {b : Nat} {S : RS} {gv uv : Value} (h : RefAt w O b S gv uv) : w.cell? ⟨b, 0, none⟩ = some (.int .i64 S.turn) := h.st.cell rfl

theorem RefAt.cGold {w : World} {O : Nat → Prop} {b : Nat} {S : RS} {gv uv : Value} (h : RefAt w O b S gv uv) : w.cell? ⟨b, 1, none⟩ = some gv := h.st.cell rfl

theorem RefAt.cOre {w : World} {O : Nat → Prop} {b : Nat} {S : RS} {gv uv : Value} (h : RefAt w O b S gv uv) {i : Nat} (hi : i < 64) : w.cell? ⟨b, 2 + i, none⟩ = some (.int .i64 (S.ore.getD i 0)) := by
  have hl := h.ore
  refine h.st.cell ?_
  unfold stCells iCells
  rw [List.getElem?_append_left (by simp; omega), List.getElem?_append_right (by simp)]
  simp [List.getD, List.getElem?_eq_getElem (show i < S.ore.length by omega)]

theorem RefAt.cUnits {w : World} {O : Nat → Prop} {b : Nat} {S : RS} {gv uv : Value} (h : RefAt w O b S gv uv) : w.cell? ⟨b, 66, none⟩ = some uv := by
  have hl := h.ore
  refine h.st.cell ?_
  unfold stCells iCells
  rw [List.getElem?_append_right (by simp; omega)]
  simp [hl]

theorem RefAt.grow {w : World} {O O' : Nat → Prop} {b : Nat} {S : RS} {gv uv : Value} (h : RefAt w O b S gv uv) (hO : ∀ k, O k → O' k) : RefAt w O' b S gv uv :=
  ⟨h.ore, h.st, h.gold, h.units, hO _ h.ob, fun k hk => ⟨hO _ (h.og k hk).1, (h.og k hk).2⟩, fun k hk => ⟨hO _ (h.ou k hk).1, (h.ou k hk).2⟩⟩

theorem RefAt.lt {w : World} {O : Nat → Prop} {b : Nat} {S : RS} {gv uv : Value} (h : RefAt w O b S gv uv) : b < w.heap.size := h.st.lt

/-- what touches none of the state's blocks -/
theorem RefAt.keep {w w' : World} {O O' : Nat → Prop} {b : Nat} {S : RS} {gv uv : Value} (h : RefAt w O b S gv uv) (hk : Keep O' w w') (hO : ∀ k, O k → k < w.heap.size → ¬ O' k) : RefAt w' O b S gv uv :=
  ⟨h.ore, h.st.same (hk.block _ h.lt (hO _ h.ob h.lt)), h.gold.same fun k e => hk.block _ (h.gold.lt e) (hO _ (h.og k e).1 (h.gold.lt e)), h.units.same fun k e => hk.block _ (h.units.lt e) (hO _ (h.ou k e).1 (h.units.lt e)), h.ob, h.og, h.ou⟩

/-- what makes memory and turns nothing that was there -/
theorem RefAt.below {w w' : World} {O : Nat → Prop} {b : Nat} {S : RS} {gv uv : Value} (h : RefAt w O b S gv uv) (hk : Below w.heap.size w w') : RefAt w' O b S gv uv :=
  h.keep (Keep.ofBelow hk) fun k _ h1 h2 => by omega

theorem stCells_units (S : RS) (gv uv uv' : Value) (us' : List RU) (hl : S.ore.length = 64) : (stCells S gv uv).set 66 uv' = stCells { S with units := us' } gv uv' := by
  unfold stCells iCells
  rw [List.set_append_right _ _ (by simp; omega)]
  simp [hl]

theorem stCells_turn (S : RS) (gv uv : Value) (n : Int) : (stCells S gv uv).set 0 (.int .i64 n) = stCells { S with turn := n } gv uv := by
  simp [stCells]

theorem stCells_ore (S : RS) (gv uv : Value) (i : Nat) (n : Int) (hl : S.ore.length = 64) (hi : i < 64) : (stCells S gv uv).set (2 + i) (.int .i64 n) = stCells { S with ore := S.ore.set i n } gv uv := by
  unfold stCells iCells
  rw [List.set_append_left _ _ (by simp; omega), List.set_append_right _ _ (by simp)]
  simp [List.map_set]

theorem stCells_gold (S : RS) (gv uv gv' : Value) (gs : List Int) : (stCells S gv uv).set 1 gv' = stCells { S with gold := gs } gv' uv := by
  simp [stCells]

theorem RefAt.setUnits {w w2 : World} {O : Nat → Prop} {b : Nat} {S : RS} {gv uv uv' : Value} {us' : List RU} (h : RefAt w O b S gv uv) (hk : Keep O w w2)
    (hst : BlkAt w2 b (stCells S gv uv) 86) (hgold : RowAt w2 3 1 gv S.gold.length (iCells S.gold)) (hrow : RowAt w2 91 6 uv' us'.length (uCells us'))
    (hob : ∀ k, uv'.ownBlock = some k → (O k ∨ w.heap.size ≤ k) ∧ k ≠ b ∧ gv.ownBlock ≠ some k) :
    RefAt (w2.setCell ⟨b, 66, none⟩ uv') (fun k => O k ∨ w.heap.size ≤ k) b { S with units := us' } gv uv' ∧ Keep O w (w2.setCell ⟨b, 66, none⟩ uv') :=
  ⟨⟨h.ore, by have := hst.set 66 uv'; rwa [stCells_units S gv uv uv' us' h.ore] at this, hgold.other (fun e => (h.og b e).2 rfl), hrow.other (fun e => (hob b e).2.1 rfl), .inl h.ob,
    fun k e => ⟨.inl (h.og k e).1, (h.og k e).2⟩, hob⟩, hk.set (.inl h.ob)⟩

/-- a field of unit k is written -/
theorem RefAt.setUnit {w : World} {O : Nat → Prop} {b g k f : Nat} {S : RS} {gv uv v : Value} {u u' : RU} (h : RefAt w O b S gv uv) (hg : uv.ownBlock = some g) (hk : S.units[k]? = some u) (hf : f < 6) (hu : u.cells.set f v = u'.cells) :
    RefAt (w.setCell ⟨g, k * 6 + f, none⟩ v) O b { S with units := S.units.set k u' } gv uv := by
  have ho := h.ou g hg
  refine ⟨h.ore, h.st.other (fun e => ho.2.1 e.symm), h.gold.other ho.2.2, ?_, h.ob, h.og, h.ou⟩
  have := h.units.set hg (k * 6 + f) v
  rw [uCells_set _ k f u u' v hk hf hu] at this
  show RowAt _ _ _ _ (S.units.set k u').length _
  rw [List.length_set]
  exact this

theorem RefAt.setHp {w : World} {O : Nat → Prop} {b g k : Nat} {S : RS} {gv uv : Value} {u : RU} (h : RefAt w O b S gv uv) (hg : uv.ownBlock = some g) (hk : S.units[k]? = some u) (n : Int) :
    RefAt (w.setCell ⟨g, k * 6 + 4, none⟩ (.int .i64 n)) O b { S with units := S.units.set k { u with hp := n } } gv uv := h.setUnit hg hk (by omega) rfl

theorem RefAt.setBusy {w : World} {O : Nat → Prop} {b g k : Nat} {S : RS} {gv uv : Value} {u : RU} (h : RefAt w O b S gv uv) (hg : uv.ownBlock = some g) (hk : S.units[k]? = some u) (n : Bool) :
    RefAt (w.setCell ⟨g, k * 6 + 5, none⟩ (.bool n)) O b { S with units := S.units.set k { u with busy := n } } gv uv := h.setUnit hg hk (by omega) rfl

theorem RefAt.setTurn {w : World} {O : Nat → Prop} {b : Nat} {S : RS} {gv uv : Value} (h : RefAt w O b S gv uv) (n : Int) : RefAt (w.setCell ⟨b, 0, none⟩ (.int .i64 n)) O b { S with turn := n } gv uv :=
  ⟨h.ore, by have := h.st.set 0 (.int .i64 n); rwa [stCells_turn] at this, h.gold.other (fun e => (h.og b e).2 rfl), h.units.other (fun e => (h.ou b e).2.1 rfl), h.ob, h.og, h.ou⟩

theorem RefAt.setOre {w : World} {O : Nat → Prop} {b : Nat} {S : RS} {gv uv : Value} (h : RefAt w O b S gv uv) (i : Nat) (hi : i < 64) (n : Int) : RefAt (w.setCell ⟨b, 2 + i, none⟩ (.int .i64 n)) O b { S with ore := S.ore.set i n } gv uv :=
  ⟨by simp [h.ore], by have := h.st.set (2 + i) (.int .i64 n); rwa [stCells_ore S gv uv i n h.ore hi] at this, h.gold.other (fun e => (h.og b e).2 rfl), h.units.other (fun e => (h.ou b e).2.1 rfl), h.ob, h.og, h.ou⟩

theorem RefAt.setGold {w : World} {O : Nat → Prop} {b g : Nat} {S : RS} {gv uv : Value} (h : RefAt w O b S gv uv) (hg : gv.ownBlock = some g) (i : Nat) (n : Int) : RefAt (w.setCell ⟨g, i, none⟩ (.int .i64 n)) O b { S with gold := S.gold.set i n } gv uv := by
  have ho := h.og g hg
  refine ⟨h.ore, h.st.other (fun e => ho.2 e.symm), ?_, h.units.other (fun e => (h.ou g e).2.2 hg), h.ob, h.og, h.ou⟩
  have := h.gold.set hg i (.int .i64 n)
  show RowAt _ _ _ _ (S.gold.set i n).length _
  rw [List.length_set]
  unfold iCells at *
  rw [List.map_set]
  exact this

theorem RefAt.alloc {w : World} {O : Nat → Prop} {b : Nat} {S : RS} {gv uv : Value} (h : RefAt w O b S gv uv) (o : Obj) : RefAt (w.alloc o) O b S gv uv := h.below ((Below.refl _ _).alloc (Nat.le_refl _) o)

theorem RefAt.drew {w : World} {O : Nat → Prop} {b : Nat} {S : RS} {gv uv : Value} (h : RefAt w O b S gv uv) : RefAt w.drew O b S gv uv := h.below (Below.refl _ _).drew

theorem RefAt.drewN {w : World} {O : Nat → Prop} {b : Nat} {S : RS} {gv uv : Value} (h : RefAt w O b S gv uv) (n : Nat) : RefAt (w.drewN n) O b S gv uv := h.below (bel_drewN (Below.refl _ _) n)

/-- the state at block b is S' now; only its own blocks have turned -/
def Moved (O : Nat → Prop) (w : World) (b : Nat) (gv : Value) (S' : RS) (w' : World) : Prop := (∃ uv', RefAt w' (fun k => O k ∨ w.heap.size ≤ k) b S' gv uv') ∧ Keep O w w'

theorem Moved.mk {O : Nat → Prop} {w w' : World} {b : Nat} {gv uv' : Value} {S' : RS} (h : RefAt w' O b S' gv uv') (k : Keep O w w') : Moved O w b gv S' w' := ⟨⟨uv', h.grow fun _ h => .inl h⟩, k⟩

theorem Moved.trans {O : Nat → Prop} {w w1 w2 : World} {b : Nat} {gv : Value} {S1 S2 : RS} (h : Moved O w b gv S1 w1) (h2 : Moved (fun k => O k ∨ w.heap.size ≤ k) w1 b gv S2 w2) : Moved O w b gv S2 w2 := by
  obtain ⟨⟨uv, r⟩, k⟩ := h2
  refine ⟨⟨uv, r.grow fun j hj => ?_⟩, h.2.trans k fun j hj => hj⟩
  have := h.2.size
  rcases hj with hj | hj
  · exact hj
  · exact .inr (by omega)

end Go.Proofs.YtdianedehhecoaaDoor

/- The document's answer's readers of a state: there, at, In, Left, Over. -/
namespace Go.Proofs.YtdianedehhecoaaDoor
open Go.RowKit
set_option linter.unusedVariables false
set_option linter.unusedSimpArgs false

theorem unit_cells {w : World} {O : Nat → Prop} {b : Nat} {S : RS} {gv uv : Value} (h : RefAt w O b S gv uv) (h0 : 0 < S.units.length) :
    ∃ g cap, uv = .slice (some ⟨g, 0, none⟩) S.units.length cap ∧ uv.ownBlock = some g ∧ (∀ i, w.frozen? ⟨g, i, none⟩ = false) ∧
      ∀ k, k < S.units.length → w.cell? ⟨g, k * 6, none⟩ = some (.int .i64 (S.units.getD k ru0).own) ∧ w.cell? ⟨g, k * 6 + 1, none⟩ = some (.int .i64 (S.units.getD k ru0).kind) ∧
        w.cell? ⟨g, k * 6 + 2, none⟩ = some (.int .i64 (S.units.getD k ru0).x) ∧ w.cell? ⟨g, k * 6 + 3, none⟩ = some (.int .i64 (S.units.getD k ru0).y) ∧
        w.cell? ⟨g, k * 6 + 4, none⟩ = some (.int .i64 (S.units.getD k ru0).hp) ∧ w.cell? ⟨g, k * 6 + 5, none⟩ = some (.bool (S.units.getD k ru0).busy) := by
  obtain ⟨g, cap, he, ho, -, -, hc, hf⟩ := h.units.form h0
  refine ⟨g, cap, he, ho, hf, fun k hk => ?_⟩
  have hg : S.units[k]? = some (S.units.getD k ru0) := by simp [List.getD, List.getElem?_eq_getElem hk]
  refine ⟨hc _ _ (uCells_get _ k 0 _ _ hg rfl), hc _ _ (uCells_get _ k 1 _ _ hg rfl), hc _ _ (uCells_get _ k 2 _ _ hg rfl), hc _ _ (uCells_get _ k 3 _ _ hg rfl), hc _ _ (uCells_get _ k 4 _ _ hg rfl), hc _ _ (uCells_get _ k 5 _ _ hg rfl)⟩

theorem take_succ_getD (us : List RU) (k : Nat) (hk : k < us.length) : us.take (k + 1) = us.take k ++ [us.getD k ru0] := by
  rw [List.take_succ_eq_append_getElem hk]; simp [List.getD, List.getElem?_eq_getElem hk]

theorem there_succ (us : List RU) (k : Nat) (hk : k < us.length) : thereF (us.take (k + 1)) = thereF (us.take k) + if 0 < (us.getD k ru0).hp then 1 else 0 := by
  rw [take_succ_getD us k hk]
  unfold thereF aliveB
  rw [List.countP_append, List.countP_singleton]
  simp

set_option maxHeartbeats 1000000 in
theorem there_any {w : World} {O : Nat → Prop} {b : Nat} {S : RS} {gv uv : Value} (h : RefAt w O b S gv uv) (h0 : 0 < S.units.length) (hn : S.units.length ≤ 1000000) :
    Calls Tryd.prog 41 #[.pointer (some ⟨b, 0, none⟩)] w fun e w' => e = .returned (.int .i64 (thereF S.units)) ∧ w' = w := by
  obtain ⟨g, cap, rfl, -, -, hc⟩ := unit_cells h h0
  have hu := h.cUnits
  generalize hus : S.units = us at *
  clear h hus
  go_enter Tryd.func41, Tryd.ntmps41
  go_wp2
  go_loop [3, 4] (fun c i => ∃ k : Nat, k ≤ us.length ∧ i = .int .i64 k ∧ thereF (us.take k) ≤ k ∧ c = .int .i64 (thereF (us.take k))) (fun _ i => us.length - (intOf i).toNat)
  case atStart => exact ⟨0, Nat.zero_le _, rfl, Nat.le_refl _, rfl⟩
  case round =>
    obtain ⟨k, hk, rfl, hz, rfl⟩ := hrel
    by_cases hlt : k < us.length
    · obtain ⟨-, -, -, -, hcell, -⟩ := hc k hlt
      have hs := there_succ us k hlt
      have HS : Hid (thereF (us.take (k + 1)) = thereF (us.take k) + if 0 < (us.getD k ru0).hp then 1 else 0) := hs
      clear hs hc
      generalize (us.getD k ru0).hp = hp at *
      generalize thereF (List.take k us) = z at *
      by_cases hpos : 0 < hp
      · go_wp2
        go_round
        case rel => rw [if_pos hpos] at HS; exact ⟨k + 1, by omega, by go_num, by rw [HS.out]; omega, by rw [HS.out]; go_num⟩
        case measure => simp [intOf]; omega
      · go_wp2
        go_round
        case rel => rw [if_neg hpos] at HS; exact ⟨k + 1, by omega, by go_num, by rw [HS.out]; omega, by rw [HS.out]; go_num⟩
        case measure => simp [intOf]; omega
    · have hT : us.take k = us := List.take_of_length_le (by omega)
      rw [hT] at hz
      rw [hT]
      clear hc
      go_wp2
      go_ret
      exact ⟨rfl, rfl⟩

theorem atF_hit (us : List RU) (k : Nat) (x y : Int) (hk : k < us.length) (hno : ∀ j, j < k → onB x y (us.getD j ru0) = false) (hyes : onB x y (us.getD k ru0) = true) : atF us x y = k := by
  have : us.findIdx? (onB x y) = some k := by
    rw [List.findIdx?_eq_some_iff_getElem]
    refine ⟨hk, ?_, fun j hj => ?_⟩
    · simpa [List.getD, List.getElem?_eq_getElem hk] using hyes
    · have := hno j hj
      have hj' : j < us.length := by omega
      simp [List.getD, List.getElem?_eq_getElem hj'] at this
      simp [this]
  unfold atF; rw [this]

theorem atF_miss (us : List RU) (x y : Int) (hno : ∀ j, j < us.length → onB x y (us.getD j ru0) = false) : atF us x y = -1 := by
  have : us.findIdx? (onB x y) = none := by
    rw [List.findIdx?_eq_none_iff]
    intro u hu
    obtain ⟨j, hj, rfl⟩ := List.getElem_of_mem hu
    have := hno j hj
    simpa [List.getD, List.getElem?_eq_getElem hj] using this
  unfold atF; rw [this]

theorem inF_hit (us : List RU) (k : Nat) (p : Int) (hk : k < us.length) (hyes : baseB p (us.getD k ru0) = true) : inF us p = true := by
  unfold inF
  rw [List.any_eq_true]
  exact ⟨us[k], List.getElem_mem hk, by simpa [List.getD, List.getElem?_eq_getElem hk] using hyes⟩

theorem inF_miss (us : List RU) (p : Int) (hno : ∀ j, j < us.length → baseB p (us.getD j ru0) = false) : inF us p = false := by
  unfold inF
  rw [List.any_eq_false]
  intro u hu
  obtain ⟨j, hj, rfl⟩ := List.getElem_of_mem hu
  have := hno j hj
  simpa [List.getD, List.getElem?_eq_getElem hj] using this

theorem no_succ (p : RU → Bool) (us : List RU) (k : Nat) (h : Hid (∀ j, j < k → p (us.getD j ru0) = false)) (hk : p (us.getD k ru0) = false) : Hid (∀ j, j < k + 1 → p (us.getD j ru0) = false) := by
  intro j hj
  by_cases e : j = k
  · rw [e]; exact hk
  · exact h.out j (by omega)

set_option maxHeartbeats 2000000 in
theorem at_any {w : World} {O : Nat → Prop} {b : Nat} {S : RS} {gv uv : Value} (x y : Int) (h : RefAt w O b S gv uv) (h0 : 0 < S.units.length) (hn : S.units.length ≤ 1000000) :
    Calls Tryd.prog 60 #[.pointer (some ⟨b, 0, none⟩), .int .i64 x, .int .i64 y] w fun e w' => e = .returned (.int .i64 (atF S.units x y)) ∧ Below w.heap.size w w' := by
  obtain ⟨g, cap, rfl, hob, -, hc⟩ := unit_cells h h0
  have hu := h.cUnits
  have hb := h.lt
  have hgl := h.units.lt hob
  generalize hus : S.units = us at *
  clear h hus hob
  go_enter Tryd.func60, Tryd.ntmps60
  go_wp2
  go_loopw [7] (fun i wr => ∃ k : Nat, k ≤ us.length ∧ i = .int .i64 k ∧ Hid (∀ j, j < k → onB x y (us.getD j ru0) = false) ∧ Below w.heap.size w wr) (fun i _ => us.length - (intOf i).toNat)
  case atStart => exact ⟨0, Nat.zero_le _, rfl, fun j hj => by omega, Below.refl _ _⟩
  case round =>
    obtain ⟨k, hk, rfl, hno, hbel⟩ := hrel
    have hu' : wr.cell? ⟨b, 66, none⟩ = _ := (hbel.cell (p := ⟨b, 66, none⟩) hb).trans hu
    clear hu
    by_cases hlt : k < us.length
    · obtain ⟨c0, c1, c2, c3, c4, c5⟩ := hc k hlt
      have d0 := (hbel.cell (p := ⟨g, k * 6, none⟩) hgl).trans c0
      have d1 := (hbel.cell (p := ⟨g, k * 6 + 1, none⟩) hgl).trans c1
      have d2 := (hbel.cell (p := ⟨g, k * 6 + 2, none⟩) hgl).trans c2
      have d3 := (hbel.cell (p := ⟨g, k * 6 + 3, none⟩) hgl).trans c3
      have d4 := (hbel.cell (p := ⟨g, k * 6 + 4, none⟩) hgl).trans c4
      have d5 := (hbel.cell (p := ⟨g, k * 6 + 5, none⟩) hgl).trans c5
      clear hc c0 c1 c2 c3 c4 c5
      generalize hU : us.getD k ru0 = u at *
      have HU : Hid (us.getD k ru0 = u) := hU
      clear hU
      have hsz := hbel.size
      go_wp2
      · go_ret
        go_light
        refine ⟨?_, hbel.alloc hsz _⟩
        refine ret_int (atF_hit us k x y hlt hno.out ?_).symm
        rw [HU.out]
        try simp only [beq_iff_eq, beq_eq_false_iff_ne, ne_eq] at *
        simp [onB]
        omega
      all_goals
        go_light
        refine ⟨⟨k + 1, by omega, by go_num, ?_, hbel.alloc hsz _⟩, by simp [intOf]; omega⟩
        refine no_succ (onB x y) us k hno ?_
        rw [HU.out]
        try simp only [beq_iff_eq, beq_eq_false_iff_ne, ne_eq] at *
        simp [onB]
        omega
    · clear hc
      go_wp2
      go_ret
      exact ⟨ret_int (atF_miss us x y (fun j hj => hno.out j (by omega))).symm, hbel⟩

set_option maxHeartbeats 2000000 in
theorem In_any {w : World} {O : Nat → Prop} {b : Nat} {S : RS} {gv uv : Value} (p : Int) (h : RefAt w O b S gv uv) (h0 : 0 < S.units.length) (hn : S.units.length ≤ 1000000) :
    Calls Tryd.prog 38 #[.pointer (some ⟨b, 0, none⟩), .int .i64 p] w fun e w' => e = .returned (.bool (inF S.units p)) ∧ Below w.heap.size w w' := by
  obtain ⟨g, cap, rfl, hob, -, hc⟩ := unit_cells h h0
  have hu := h.cUnits
  have hb := h.lt
  have hgl := h.units.lt hob
  generalize hus : S.units = us at *
  clear h hus hob
  go_enter Tryd.func38, Tryd.ntmps38
  go_wp2
  go_loopw [5] (fun i wr => ∃ k : Nat, k ≤ us.length ∧ i = .int .i64 k ∧ Hid (∀ j, j < k → baseB p (us.getD j ru0) = false) ∧ Below w.heap.size w wr) (fun i _ => us.length - (intOf i).toNat)
  case atStart => exact ⟨0, Nat.zero_le _, rfl, fun j hj => by omega, Below.refl _ _⟩
  case round =>
    obtain ⟨k, hk, rfl, hno, hbel⟩ := hrel
    have hu' : wr.cell? ⟨b, 66, none⟩ = _ := (hbel.cell (p := ⟨b, 66, none⟩) hb).trans hu
    clear hu
    by_cases hlt : k < us.length
    · obtain ⟨c0, c1, c2, c3, c4, c5⟩ := hc k hlt
      have d0 := (hbel.cell (p := ⟨g, k * 6, none⟩) hgl).trans c0
      have d1 := (hbel.cell (p := ⟨g, k * 6 + 1, none⟩) hgl).trans c1
      have d2 := (hbel.cell (p := ⟨g, k * 6 + 2, none⟩) hgl).trans c2
      have d3 := (hbel.cell (p := ⟨g, k * 6 + 3, none⟩) hgl).trans c3
      have d4 := (hbel.cell (p := ⟨g, k * 6 + 4, none⟩) hgl).trans c4
      have d5 := (hbel.cell (p := ⟨g, k * 6 + 5, none⟩) hgl).trans c5
      clear hc c0 c1 c2 c3 c4 c5
      generalize hU : us.getD k ru0 = u at *
      have HU : Hid (us.getD k ru0 = u) := hU
      clear hU
      have hsz := hbel.size
      go_wp2
      · go_ret
        go_light
        refine ⟨?_, hbel.alloc hsz _⟩
        refine ret_bool (inF_hit us k p hlt ?_).symm
        rw [HU.out]
        try simp only [beq_iff_eq, beq_eq_false_iff_ne, ne_eq] at *
        simp [baseB]
        omega
      all_goals
        go_light
        refine ⟨⟨k + 1, by omega, by go_num, ?_, hbel.alloc hsz _⟩, by simp [intOf]; omega⟩
        refine no_succ (baseB p) us k hno ?_
        rw [HU.out]
        try simp only [beq_iff_eq, beq_eq_false_iff_ne, ne_eq] at *
        simp [baseB]
        omega
    · clear hc
      go_wp2
      go_ret
      exact ⟨ret_bool (inF_miss us p (fun j hj => hno.out j (by omega))).symm, hbel⟩

end Go.Proofs.YtdianedehhecoaaDoor

/- The document's answer: Left, Over. -/
namespace Go.Proofs.YtdianedehhecoaaDoor
open Go.RowKit
set_option linter.unusedVariables false
set_option linter.unusedSimpArgs false

set_option maxHeartbeats 1000000 in
theorem left_any {w : World} {O : Nat → Prop} {b : Nat} {S : RS} {gv uv : Value} (h : RefAt w O b S gv uv) (h0 : 0 < S.units.length) (hn : S.units.length ≤ 1000000) (hg0 : 0 < S.gold.length) (hg4 : S.gold.length ≤ 4) :
    Calls Tryd.prog 36 #[.pointer (some ⟨b, 0, none⟩)] w fun e w' => e = .returned (.tuple #[.int .i64 (leftTo S.units S.gold.length).1, .int .i64 (leftTo S.units S.gold.length).2]) ∧ Below w.heap.size w w' := by
  have hc := h.cGold
  obtain ⟨g, cap, rfl, -, -, -, -, -⟩ := h.gold.form hg0
  have hb := h.lt
  go_enter Tryd.func36, Tryd.ntmps36
  go_wp2
  go_loopw [4, 5, 6] (fun n l p wr => ∃ k : Nat, k ≤ S.gold.length ∧ p = .int .i64 k ∧ (leftTo S.units k).1 ≤ k ∧ n = .int .i64 (leftTo S.units k).1 ∧ l = .int .i64 (leftTo S.units k).2 ∧ Below w.heap.size w wr) (fun _ _ p _ => S.gold.length - (intOf p).toNat)
  case atStart => exact ⟨0, Nat.zero_le _, rfl, Nat.le_refl _, rfl, rfl, Below.refl _ _⟩
  case round =>
    obtain ⟨k, hk, rfl, hle, rfl, rfl, hbel⟩ := hrel
    have hc' := (hbel.cell (p := ⟨b, 1, none⟩) hb).trans hc
    have h' := h.below hbel
    have hsz := hbel.size
    have H2 : Hid (leftTo S.units (k + 1) = if inF S.units k then ((leftTo S.units k).1 + 1, (k : Int)) else leftTo S.units k) := rfl
    clear h hc
    by_cases hlt : k < S.gold.length
    · generalize leftTo S.units k = L at *
      cases hin : inF S.units k with
      | true =>
        rw [hin, if_pos rfl] at H2
        have Hin : Hid (inF S.units k = true) := hin
        clear hin
        go_wp2_with (go_at_call 38; refine (In_any _ h' h0 hn).mono ?_; rintro e w1 ⟨rfl, hb1⟩; rw [Hin.out])
        go_roundw
        case rel => exact ⟨k + 1, by omega, by go_num, by rw [H2.out]; simp; omega, by rw [H2.out]; go_num, by rw [H2.out], hbel.trans (hb1.mono hsz)⟩
        case measure => simp [intOf]; omega
      | false =>
        rw [hin, if_neg (by simp)] at H2
        have Hin : Hid (inF S.units k = false) := hin
        clear hin
        go_wp2_with (go_at_call 38; refine (In_any _ h' h0 hn).mono ?_; rintro e w1 ⟨rfl, hb1⟩; rw [Hin.out])
        go_roundw
        case rel => exact ⟨k + 1, by omega, by go_num, by rw [H2.out]; omega, by rw [H2.out], by rw [H2.out], hbel.trans (hb1.mono hsz)⟩
        case measure => simp [intOf]; omega
    · have : k = S.gold.length := by omega
      subst this
      go_wp2
      go_ret2
      exact ⟨rfl, hbel⟩

set_option maxHeartbeats 1000000 in
theorem over_any {w : World} {O : Nat → Prop} {b : Nat} {S : RS} {gv uv : Value} (h : RefAt w O b S gv uv) (h0 : 0 < S.units.length) (hn : S.units.length ≤ 1000000) (hg0 : 0 < S.gold.length) (hg4 : S.gold.length ≤ 4) :
    Calls Tryd.prog 17 #[.pointer (some ⟨b, 0, none⟩)] w fun e w' => e = .returned (.bool (overB S)) ∧ Below w.heap.size w w' := by
  have hle := leftTo_le S.units S.gold.length
  have HO : Hid (overB S = decide ((leftTo S.units S.gold.length).1 ≤ 1)) := rfl
  go_enter Tryd.func17, Tryd.ntmps17
  go_wp2_with (go_at_call 36; refine (left_any h h0 hn hg0 hg4).mono ?_; rintro e w1 ⟨rfl, hb1⟩)
  go_ret
  exact ⟨by rw [HO.out]; simp; omega, hb1⟩

end Go.Proofs.YtdianedehhecoaaDoor

/- The document's answer: add. -/
namespace Go.Proofs.YtdianedehhecoaaDoor
open Go.RowKit
set_option linter.unusedVariables false
set_option linter.unusedSimpArgs false

theorem infoUnit : (Tryd.prog.info? 91).map (fun i => (i.zero, i.size, i.bytes)) = some (some (.agg #[.int .i64 0, .int .i64 0, .int .i64 0, .int .i64 0, .int .i64 0, .bool false]), 6, 48) := by kernel_rfl
theorem infoInt : (Tryd.prog.info? 3).map (fun i => (i.zero, i.size, i.bytes)) = some (some (.int .i64 0), 1, 8) := by kernel_rfl

set_option maxHeartbeats 1000000 in
theorem add_any {w : World} {O : Nat → Prop} {b : Nat} {S : RS} {gv uv : Value} (p kd x y : Int) (h : RefAt w O b S gv uv) (hn : S.units.length ≤ 1000000) (k1 : 0 ≤ kd) (k3 : kd ≤ 3) :
    Calls Tryd.prog 35 #[.pointer (some ⟨b, 0, none⟩), .int .i64 p, .int .i64 kd, .int .i64 x, .int .i64 y] w fun e w' => e = .returned (.tuple #[]) ∧ 
      Moved O w b gv { S with units := S.units ++ [⟨p, kd, x, y, healthOf kd, true⟩] } w' := by
  obtain ⟨i0, hi, hz0, hz1, hz2⟩ := info_parts infoUnit
  have hc := h.cUnits
  have hb := h.lt
  go_enter Tryd.func35, Tryd.ntmps35
  have hfz := h.st.free 66
  go_wp2_with (first
    | (go_at_call 58; refine (health_any _ _ k1 k3).mono ?_; rintro e w1 ⟨rfl, hb1⟩; have hc1 := (hb1.cell (p := ⟨b, 66, none⟩) hb).trans hc; have hrow := h.units.same (w' := w1) (fun k e => hb1.block k (h.units.lt e)))
    | (at_builtin; refine wpList_append_own_at _ rfl _ _ 84 rfl 0 91 i0 _ 6 48 Tryd.underlying84 hi hz0 hz1 hz2 rfl (by decide) _ _ _ rfl (RowAt.alloc hrow _) ⟨w1.heap.size, 0, none⟩ 1 1 [.int .i64 p, .int .i64 kd, .int .i64 x, .int .i64 y, .int .i64 (healthOf kd), .bool true] rfl rfl ?c1 ?c2 ?c3 ?c4 ?c5 ?_))
  case c1 =>
    intro j u hj
    match j, hj with
    | 0, hj => simp at hj; subst hj; simp [Addr.add]
    | 1, hj => simp at hj; subst hj; simp [Addr.add]
    | 2, hj => simp at hj; subst hj; simp [Addr.add]
    | 3, hj => simp at hj; subst hj; simp [Addr.add]
    | 4, hj => simp at hj; subst hj; simp [Addr.add]
    | 5, hj => simp at hj; subst hj; simp [Addr.add]
    | j + 6, hj => simp at hj
  case c2 => intro u hu; simp at hu; rcases hu with rfl | rfl | rfl | rfl | rfl | rfl <;> rfl
  case c3 => unfold maxLen; omega
  case c4 => omega
  case c5 => exact Nat.zero_le _
  · intro v' w2 hown hg hnil hob
    have hsz1 := hb1.size
    have hblk : w2.heap[b]? = w.heap[b]? := by
      rw [hg.block b (by simp; omega) (fun e => (h.ou b e.symm).2.1 rfl), Below.heap_alloc _ _ _ (by omega), hb1.block b hb]
    have hst2 := h.st.same hblk
    have hc2 : w2.cell? ⟨b, 66, none⟩ = some uv := (World.cell?_of_block (w := w) (a := ⟨b, 66, none⟩) hblk).trans hc
    have hf2 := hst2.free 66
    have HB := (show Hid (w2.heap[b]? = w.heap[b]?) from hblk)
    clear hblk
    have Hob : Hid (v'.ownBlock = uv.ownBlock ∨ v'.ownBlock = some (w1.heap.size + 1)) := hob
    have Hb1 : Hid (Below w.heap.size w w1) := hb1
    have Hh : Hid (RefAt w O b S gv uv) := h
    have hown' : RowAt w2 91 6 v' (S.units.length + 1) _ := hown
    clear hown
    clear hc1 hc hfz hnil hob h hb1 hi hz0 hz1 hz2
    obtain ⟨g', cap', hv', -, -, -, -, -⟩ := hown'.form (by omega)
    subst hv'
    go_wp2
    go_end0
    go_light
    refine ⟨rfl, ?_⟩
    have h := Hh.out
    have hb1 := Hb1.out
    have hk1 : Keep O w w1 := (Keep.ofBelow hb1).mono (fun j hj => .inr hj)
    have hk2 : Keep O w w2 := (hk1.alloc _).grown hg (fun k e => .inl (h.ou k e).1)
    have hfin := RefAt.setUnits (uv' := .slice (some ⟨g', 0, none⟩) (S.units.length + 1) cap') (us' := S.units ++ [⟨p, kd, x, y, healthOf kd, true⟩]) h hk2 hst2 ?_ ?_ ?_
    exact ⟨⟨_, hfin.1⟩, hfin.2⟩
    · refine h.gold.same fun k e => ?_
      rw [hg.block k (by have := h.gold.lt e; simp; omega) (fun e2 => (h.ou k e2.symm).2.2 e), Below.heap_alloc _ _ _ (by have := h.gold.lt e; omega), hb1.block k (h.gold.lt e)]
    · have e1 : (S.units ++ [⟨p, kd, x, y, healthOf kd, true⟩] : List RU).length = S.units.length + 1 := by simp
      have e2 : uCells (S.units ++ [⟨p, kd, x, y, healthOf kd, true⟩]) = uCells S.units ++ [.int .i64 p, .int .i64 kd, .int .i64 x, .int .i64 y, .int .i64 (healthOf kd), .bool true] := by simp [uCells, RU.cells]
      rw [e1, e2]
      exact hown'
    · intro k e
      rcases Hob.out with e2 | e2
      · rw [e2] at e
        exact ⟨.inl (h.ou k e).1, (h.ou k e).2⟩
      · rw [e2] at e
        have : k = w1.heap.size + 1 := by injection e with e; exact e.symm
        refine ⟨.inr (by omega), by omega, fun e3 => ?_⟩
        have := h.gold.lt e3
        omega
end Go.Proofs.YtdianedehhecoaaDoor

/- The document's answer: does. -/
namespace Go.Proofs.YtdianedehhecoaaDoor
open Go.RowKit
set_option linter.unusedVariables false
set_option linter.unusedSimpArgs false

set_option maxHeartbeats 2000000 in
set_option maxRecDepth 100000 in
theorem does_1 {w : World} {O : Nat → Prop} {b k : Nat} {S : RS} {gv uv : Value} (x y on : Int) (h : RefAt w O b S gv uv) (hI : RInv S) (hk : k < S.units.length) :
    Calls Tryd.prog 61 #[.pointer (some ⟨b, 0, none⟩), .int .i64 k, .int .i64 1, .int .i64 x, .int .i64 y, .int .i64 on] w fun e w' => e = .returned (.bool (doesF S k 1 x y on).2) ∧ Moved O w b gv (doesF S k 1 x y on).1 w' := by
  have hn := hI.bounds.1
  obtain ⟨g, cap, hv, hob, hfr, hc⟩ := unit_cells h hI.u0
  subst hv
  have hu := h.cUnits
  obtain ⟨c0, c1, c2, c3, c4, c5⟩ := hc k hk
  have hgs := getD_some S.units k hk
  have hgl := h.units.lt hob
  have hbl := h.lt
  have hne := (h.ou g hob).2.1
  have Hh : Hid (RefAt w O b S gv _) := h
  have Hgs : Hid (S.units[k]? = some (S.units.getD k ru0)) := hgs
  have f2 := hfr (k * 6 + 2)
  have f3 := hfr (k * 6 + 3)
  have Hdo : Hid (doesF S k 1 x y on = if (S.units.getD k ru0).kind = 1 ∨ 0 ≤ on then (S, false) else ({ S with units := S.units.set k { (S.units.getD k ru0) with x := x, y := y } }, true)) := by simp [doesF, Hid]
  clear hc h hgs hfr
  generalize S.units.getD k ru0 = u at *
  go_enter Tryd.func61, Tryd.ntmps61
  go_wp2
  · go_ret
    have hd : doesF S k 1 x y on = (S, false) := by rw [Hdo.out, if_pos (.inl ‹_›)]
    rw [hd]
    exact ⟨rfl, Moved.mk (Hh.out.alloc _) ((Keep.refl _ _).alloc _)⟩
  · go_ret
    have hd : doesF S k 1 x y on = (S, false) := by rw [Hdo.out, if_pos (by rename_i hh; simpa using hh)]
    rw [hd]
    exact ⟨rfl, Moved.mk (Hh.out.alloc _) ((Keep.refl _ _).alloc _)⟩
  · go_ret
    have hd : doesF S k 1 x y on = ({ S with units := S.units.set k { u with x := x, y := y } }, true) := by rw [Hdo.out, if_neg (by rename_i hh; simp at hh; omega)]
    rw [hd]
    have h1 := Hh.out.setUnit (f := 2) (v := .int .i64 x) (u' := { u with x := x }) hob Hgs.out (by omega) rfl
    have h2 := h1.setUnit (k := k) (f := 3) (v := .int .i64 y) (u := { u with x := x }) (u' := { u with x := x, y := y }) hob (by simp [hk]) (by omega) rfl
    simp only [List.set_set] at h2
    have hO := (Hh.out.ou g hob).1
    exact ⟨rfl, Moved.mk (h2.alloc _) ((((Keep.refl _ _).set (.inl hO)).set (.inl hO)).alloc _)⟩

set_option maxHeartbeats 2000000 in
set_option maxRecDepth 100000 in
theorem does_else {w : World} {O : Nat → Prop} {b k : Nat} {S : RS} {gv uv : Value} (wh x y on : Int) (h : RefAt w O b S gv uv) (hI : RInv S) (hk : k < S.units.length) (n1 : wh ≠ 1) (n2 : wh ≠ 2) (n3 : wh ≠ 3) (n4 : wh ≠ 4) (n5 : wh ≠ 5) :
    Calls Tryd.prog 61 #[.pointer (some ⟨b, 0, none⟩), .int .i64 k, .int .i64 wh, .int .i64 x, .int .i64 y, .int .i64 on] w fun e w' => e = .returned (.bool (doesF S k wh x y on).2) ∧ Moved O w b gv (doesF S k wh x y on).1 w' := by
  have hn := hI.bounds.1
  obtain ⟨g, cap, hv, hob, hfr, hc⟩ := unit_cells h hI.u0
  subst hv
  have hu := h.cUnits
  obtain ⟨c0, c1, c2, c3, c4, c5⟩ := hc k hk
  have hgs := getD_some S.units k hk
  have hgl := h.units.lt hob
  have hbl := h.lt
  have hne := (h.ou g hob).2.1
  have Hh : Hid (RefAt w O b S gv _) := h
  have Hgs : Hid (S.units[k]? = some (S.units.getD k ru0)) := hgs
  have hd : doesF S k wh x y on = (S, false) := by simp [doesF, n1, n2, n3, n4, n5]
  rw [hd]
  have b1 : (wh == 1) = false := by simp [n1]
  have b2 : (wh == 2) = false := by simp [n2]
  have b3 : (wh == 3) = false := by simp [n3]
  have b4 : (wh == 4) = false := by simp [n4]
  have b5 : (wh == 5) = false := by simp [n5]
  clear hc h hgs hfr hd n1 n2 n3 n4 n5
  generalize S.units.getD k ru0 = u at *
  go_enter Tryd.func61, Tryd.ntmps61
  go_wp2
  go_ret
  exact ⟨rfl, Moved.mk (Hh.out.alloc _) ((Keep.refl _ _).alloc _)⟩

end Go.Proofs.YtdianedehhecoaaDoor
