/- A match of two that goes and is watched, one of whom may have given up: where it lies, and what a tick makes of it. -/
import Derived.Test.YtdianedehhecoaaGreatDoorMatchPlays
import Derived.Test.YtdianedehhecoaaGreatDoorMatchNews
import Derived.Test.YtdianedehhecoaaGreatDoorWireReads
import Derived.Test.YtdianedehhecoaaGreatDoorMatchAts
import Derived.Test.YtdianedehhecoaaGreatDoorProgFold
namespace Go.Proofs.YtdianedehhecoaaGreatDoor
open Go.RowKit Go.MuLone
set_option linter.unusedVariables false
set_option linter.unusedSimpArgs false

structure Duel (w : World) (lk : Int) (lo mb sb tb p0 p1 wl wt wc : Nat) (S : RS) (hv gv uv : Value) (bs : List Nat) (g n : Nat) (hs : List Value) (f0 l0 f1 l1 : Bool) (sv : Value) : Prop where
  cells : BlkAt w mb [.int .i32 lk, .int .u32 0, .pointer (some ⟨sb, 0, none⟩), hv, .slice (some ⟨tb, 0, none⟩) 2 2, .bool false, .slice (some ⟨wl, 0, none⟩) 1 wc] 136
  row : RowAt w 9 1 hv n hs
  seats : BlkAt w tb [.pointer (some ⟨p0, 0, none⟩), .pointer (some ⟨p1, 0, none⟩)] 182
  a : BlkAt w p0 [.int .i64 0, .string ⟨#[97]⟩, .int .i64 0, .slice none 0 0, .bool f0, .bool l0] 184
  b : BlkAt w p1 [.int .i64 1, .string ⟨#[98]⟩, .int .i64 0, .slice none 0 0, .bool f1, .bool l1] 184
  ub : uv.ownBlock = some g
  state : PAt w (fun k => lo ≤ k ∧ k ∉ [mb, tb, p0, p1, wl, wt] ∧ hv.ownBlock ≠ some k) sb (toPS S) gv uv bs
  wrow : w.cell? ⟨wl, 0, none⟩ = some (.pointer (some ⟨wt, 0, none⟩))
  wat : BlkAt w wt [.pointer (some ⟨mb, 0, none⟩), sv] 187
  low : ∀ k, k ∈ [mb, tb, p0, p1, wl, wt] → lo ≤ k
  nd : [mb, tb, p0, p1, wl, wt].Nodup
  hl : ∀ k, hv.ownBlock = some k → lo ≤ k ∧ k ∉ [mb, tb, p0, p1, wl, wt]
  inv : RInv S
section
variable {w w' : World} {lk : Int} {lo mb sb tb p0 p1 wl wt wc : Nat} {S : RS} {hv gv uv : Value} {bs : List Nat} {g n : Nat} {hs : List Value} {f0 l0 f1 l1 : Bool} {sv : Value}
/-- nothing changed -/
theorem Duel.on (h : Duel w lk lo mb sb tb p0 p1 wl wt wc S hv gv uv bs g n hs f0 l0 f1 l1 sv) (hk : ∀ k, lo ≤ k → k < w.heap.size → w'.heap[k]? = w.heap[k]?) : Duel w' lk lo mb sb tb p0 p1 wl wt wc S hv gv uv bs g n hs f0 l0 f1 l1 sv :=
  { h with
    cells := h.cells.same (hk _ (h.low _ (by simp)) h.cells.lt)
    row := h.row.same fun k e => hk _ (h.hl k e).1 (h.row.lt e)
    seats := h.seats.same (hk _ (h.low _ (by simp)) h.seats.lt)
    a := h.a.same (hk _ (h.low _ (by simp)) h.a.lt)
    b := h.b.same (hk _ (h.low _ (by simp)) h.b.lt)
    state := h.state.on fun k ho hl => hk k ho.1 hl
    wrow := (World.cell?_of_block (w := w) (hk _ (h.low _ (by simp)) (cell_lt h.wrow))).trans h.wrow
    wat := h.wat.same (hk _ (h.low _ (by simp)) h.wat.lt) }
theorem Duel.below (h : Duel w lk lo mb sb tb p0 p1 wl wt wc S hv gv uv bs g n hs f0 l0 f1 l1 sv) (hb : Below w.heap.size w w') : Duel w' lk lo mb sb tb p0 p1 wl wt wc S hv gv uv bs g n hs f0 l0 f1 l1 sv := h.on fun k _ hk => hb.block k hk
/-- the match's own cells changed -/
theorem Duel.locks (h : Duel w lk lo mb sb tb p0 p1 wl wt wc S hv gv uv bs g n hs f0 l0 f1 l1 sv) (l2 : Int) : Duel (w.setCell ⟨mb, 0, none⟩ (.int .i32 l2)) l2 lo mb sb tb p0 p1 wl wt wc S hv gv uv bs g n hs f0 l0 f1 l1 sv := by
  have nd := h.nd
  simp only [List.nodup_cons, List.mem_cons, List.not_mem_nil, or_false, not_or] at nd
  exact
  { h with
    cells := h.cells.set 0 (.int .i32 l2)
    row := h.row.other fun e => (h.hl _ e).2 (by simp)
    seats := h.seats.other (by omega)
    a := h.a.other (by omega)
    b := h.b.other (by omega)
    state := h.state.on fun k ho hl => Below.heap_setCell w ⟨mb, 0, none⟩ _ k (fun e => ho.2.1 (by simp [show k = mb from e]))
    wrow := (World.cell?_of_block (w := w) (Below.heap_setCell w ⟨mb, 0, none⟩ _ wl (by show wl ≠ mb; omega))).trans h.wrow
    wat := h.wat.other (by omega) }
/-- the players' blocks changed -/
theorem Duel.players {f0' l0' f1' l1' : Bool} (h : Duel w lk lo mb sb tb p0 p1 wl wt wc S hv gv uv bs g n hs f0 l0 f1 l1 sv) (hk : ∀ k, k < w.heap.size → k ≠ p0 → k ≠ p1 → w'.heap[k]? = w.heap[k]?)
    (ha : BlkAt w' p0 [.int .i64 0, .string ⟨#[97]⟩, .int .i64 0, .slice none 0 0, .bool f0', .bool l0'] 184) (hb : BlkAt w' p1 [.int .i64 1, .string ⟨#[98]⟩, .int .i64 0, .slice none 0 0, .bool f1', .bool l1'] 184) : Duel w' lk lo mb sb tb p0 p1 wl wt wc S hv gv uv bs g n hs f0' l0' f1' l1' sv := by
  have nd := h.nd
  simp only [List.nodup_cons, List.mem_cons, List.not_mem_nil, or_false, not_or] at nd
  exact
  { h with
    cells := h.cells.same (hk _ h.cells.lt (by omega) (by omega))
    row := h.row.same fun k e => hk _ (h.row.lt e) (fun e2 => (h.hl k e).2 (by simp [e2])) (fun e2 => (h.hl k e).2 (by simp [e2]))
    seats := h.seats.same (hk _ h.seats.lt (by omega) (by omega))
    a := ha
    b := hb
    state := h.state.on fun k ho hl => hk k hl (fun e => ho.2.1 (by simp [e])) (fun e => ho.2.1 (by simp [e]))
    wrow := (World.cell?_of_block (w := w) (hk wl (cell_lt h.wrow) (by omega) (by omega))).trans h.wrow
    wat := h.wat.same (hk _ h.wat.lt (by omega) (by omega)) }
/-- the watcher's block changed -/
theorem Duel.told {sv' : Value} (h : Duel w lk lo mb sb tb p0 p1 wl wt wc S hv gv uv bs g n hs f0 l0 f1 l1 sv) (hk : ∀ k, k < w.heap.size → k ≠ wt → w'.heap[k]? = w.heap[k]?)
    (ht : BlkAt w' wt [.pointer (some ⟨mb, 0, none⟩), sv'] 187) : Duel w' lk lo mb sb tb p0 p1 wl wt wc S hv gv uv bs g n hs f0 l0 f1 l1 sv' := by
  have nd := h.nd
  simp only [List.nodup_cons, List.mem_cons, List.not_mem_nil, or_false, not_or] at nd
  exact
  { h with
    cells := h.cells.same (hk _ h.cells.lt (by omega))
    row := h.row.same fun k e => hk _ (h.row.lt e) (fun e2 => (h.hl k e).2 (by simp [e2]))
    seats := h.seats.same (hk _ h.seats.lt (by omega))
    a := h.a.same (hk _ h.a.lt (by omega))
    b := h.b.same (hk _ h.b.lt (by omega))
    state := h.state.on fun k ho hl => hk k hl (fun e => ho.2.1 (by simp [e]))
    wrow := (World.cell?_of_block (w := w) (hk wl (cell_lt h.wrow) (by omega))).trans h.wrow
    wat := ht }
/-- the state's blocks changed -/
theorem Duel.did {S' : RS} {uv' : Value} {g' : Nat} {bs' : List Nat} {O : Nat → Prop} (h : Duel w lk lo mb sb tb p0 p1 wl wt wc S hv gv uv bs g n hs f0 l0 f1 l1 sv) (hO : ∀ k, O k → lo ≤ k ∧ k ∉ [mb, tb, p0, p1, wl, wt] ∧ hv.ownBlock ≠ some k) (hlo : lo ≤ w.heap.size) (hk : Keep O w w')
    (hs' : PAt w' (fun k => O k ∨ w.heap.size ≤ k) sb (toPS S') gv uv' bs') (hu : uv'.ownBlock = some g') (hI : RInv S') : Duel w' lk lo mb sb tb p0 p1 wl wt wc S' hv gv uv' bs' g' n hs f0 l0 f1 l1 sv := by
  have q : ∀ k, k ∈ [mb, tb, p0, p1, wl, wt] → ¬ O k := fun k hm ho => (hO k ho).2.1 hm
  have z : ∀ k, k ∈ [mb, tb, p0, p1, wl, wt] → k < w.heap.size := fun k hm => by
    simp only [List.mem_cons, List.not_mem_nil, or_false] at hm
    rcases hm with rfl | rfl | rfl | rfl | rfl | rfl
    · exact h.cells.lt
    · exact h.seats.lt
    · exact h.a.lt
    · exact h.b.lt
    · exact cell_lt h.wrow
    · exact h.wat.lt
  exact
  { h with
    cells := h.cells.same (hk.block _ h.cells.lt (q _ (by simp)))
    row := h.row.same fun k e => hk.block _ (h.row.lt e) (fun ho => (hO k ho).2.2 e)
    seats := h.seats.same (hk.block _ h.seats.lt (q _ (by simp)))
    a := h.a.same (hk.block _ h.a.lt (q _ (by simp)))
    b := h.b.same (hk.block _ h.b.lt (q _ (by simp)))
    ub := hu
    state := hs'.own fun k ho hl => by
      rcases ho with ho | ho
      · exact hO k ho
      · exact ⟨by omega, fun hm => by have := z k hm; omega, fun e => by have := h.row.lt e; omega⟩
    wrow := (World.cell?_of_block (w := w) (hk.block wl (cell_lt h.wrow) (q _ (by simp)))).trans h.wrow
    wat := h.wat.same (hk.block _ h.wat.lt (q _ (by simp)))
    inv := hI }
/-- one hash more -/
theorem Duel.hashed {hv' : Value} {t : ByteArray} (h : Duel w lk lo mb sb tb p0 p1 wl wt wc S hv gv uv bs g n hs f0 l0 f1 l1 sv) (hlo : lo ≤ w.heap.size)
    (hh : Hashed2 w w' mb [.int .i32 lk, .int .u32 0, .pointer (some ⟨sb, 0, none⟩), hv, .slice (some ⟨tb, 0, none⟩) 2 2, .bool false, .slice (some ⟨wl, 0, none⟩) 1 wc] hv n hs t hv') : Duel w' lk lo mb sb tb p0 p1 wl wt wc S hv' gv uv bs g (n + 1) (hs ++ [.string t]) f0 l0 f1 l1 sv := by
  have nd := h.nd
  simp only [List.nodup_cons, List.mem_cons, List.not_mem_nil, or_false, not_or] at nd
  have q : ∀ k, k ∈ [mb, tb, p0, p1, wl, wt] → hv.ownBlock ≠ some k := fun k hm e => (h.hl k e).2 hm
  have z : ∀ k, k ∈ [mb, tb, p0, p1, wl, wt] → k < w.heap.size := fun k hm => by
    simp only [List.mem_cons, List.not_mem_nil, or_false] at hm
    rcases hm with rfl | rfl | rfl | rfl | rfl | rfl
    · exact h.cells.lt
    · exact h.seats.lt
    · exact h.a.lt
    · exact h.b.lt
    · exact cell_lt h.wrow
    · exact h.wat.lt
  exact
  { h with
    cells := hh.cells
    row := hh.row
    seats := h.seats.same (hh.block _ h.seats.lt (by omega) (q _ (by simp)))
    a := h.a.same (hh.block _ h.a.lt (by omega) (q _ (by simp)))
    b := h.b.same (hh.block _ h.b.lt (by omega) (q _ (by simp)))
    state := ((h.state.own (O' := fun k => (lo ≤ k ∧ k ∉ [mb, tb, p0, p1, wl, wt] ∧ hv.ownBlock ≠ some k) ∧ hv'.ownBlock ≠ some k) fun k ho hl => ⟨ho, fun e => by
      rcases hh.own with e2 | ⟨j, e2, hj⟩
      · rw [e2] at e; exact ho.2.2 e
      · rw [e2] at e; cases e; omega⟩).on fun k ho hl => hh.block k hl (fun e => ho.1.2.1 (by simp [e])) ho.1.2.2).own fun k ho hl => ⟨ho.1.1, ho.1.2.1, ho.2⟩
    wrow := (World.cell?_of_block (w := w) (hh.block wl (cell_lt h.wrow) (by omega) (q _ (by simp)))).trans h.wrow
    wat := h.wat.same (hh.block _ h.wat.lt (by omega) (q _ (by simp)))
    hl := fun k e => by
      rcases hh.own with e2 | ⟨j, e2, hj⟩
      · rw [e2] at e; exact h.hl k e
      · rw [e2] at e; cases e; exact ⟨by omega, fun hm => by have := z _ hm; omega⟩ }
end
end Go.Proofs.YtdianedehhecoaaGreatDoor

/- Match.Tick of a match of two, one of whom has given up. -/
namespace Go.Proofs.YtdianedehhecoaaGreatDoor
open Go.RowKit Go.MuLone
set_option linter.unusedVariables false
set_option linter.unusedSimpArgs false

/-- the turn in which player k gives up -/
def gives (k : Nat) : List RC := [⟨(k : Int), 0, 0, 0, 0⟩]
section
variable {w : World} {lk : Int} {lo mb sb tb p0 p1 wl wt wc : Nat} {S : RS} {hv gv uv : Value} {bs : List Nat} {g n : Nat} {hs : List Value} {f0 l0 f1 l1 : Bool} {sv : Value}
theorem PAt.with {w w2 : World} {O O2 : Nat → Prop} {b : Nat} {S : PS} {gv uv : Value} {bs : List Nat} (h : PAt w O b S gv uv bs) (h2 : PAt w2 O2 b S gv uv bs) : PAt w O2 b S gv uv bs :=
  { h with ob := h2.ob, og := h2.og, ou := h2.ou, oe := h2.oe }
theorem Duel.seated (h : Duel w lk lo mb sb tb p0 p1 wl wt wc S hv gv uv bs g n hs f0 l0 f1 l1 sv) : Seated w mb tb [p0, p1] := by
  refine ⟨h.cells.cell rfl, fun i hi => ?_, fun i hi => ?_⟩
  · have : i = 0 ∨ i = 1 := by simp at hi; omega
    rcases this with rfl | rfl
    · exact h.seats.cell rfl
    · exact h.seats.cell rfl
  · have : i = 0 ∨ i = 1 := by simp at hi; omega
    rcases this with rfl | rfl
    · exact h.a.cell rfl
    · exact h.b.cell rfl
theorem Duel.over (h : Duel w lk lo mb sb tb p0 p1 wl wt wc S hv gv uv bs g n hs f0 l0 f1 l1 sv) :
    Calls Pz.prog 39 #[.pointer (some ⟨sb, 0, none⟩)] w fun e w' => e = .returned (.bool (overB S)) ∧ Below w.heap.size w w' := by
  have H := POver_any h.state h.ub h.inv.toP.n (toPS_own h.inv)
  have hovr : overP (toPS S).units = overB S := over_rel h.inv
  rw [hovr] at H
  exact H
theorem Duel.phase (h : Duel w lk lo mb sb tb p0 p1 wl wt wc S hv gv uv bs g n hs f0 l0 f1 l1 sv) :
    Calls Pz.prog 91 #[.pointer (some ⟨mb, 0, none⟩)] w fun e w' => e = .returned (.int .i64 (if overB S then 3 else 2)) ∧ Below w.heap.size w w' :=
  phase_full h.seated (by simp) (h.cells.cell rfl) h.over
set_option maxHeartbeats 1000000 in
theorem turn_at {x : Value} (h0 : w.cell? ⟨sb, 0, none⟩ = some x) :
    Calls Pz.prog 92 #[.pointer (some ⟨sb, 0, none⟩)] w fun e w' => e = .returned x ∧ w' = w := by
  go_enter Pz.func92, Tryz.ntmps92
  go_wp2
  go_ret
  exact ⟨rfl, rfl⟩
theorem Duel.turn (h : Duel w lk lo mb sb tb p0 p1 wl wt wc S hv gv uv bs g n hs f0 l0 f1 l1 sv) :
    Calls Pz.prog 92 #[.pointer (some ⟨sb, 0, none⟩)] w fun e w' => e = .returned (.int .i64 S.turn) ∧ w' = w := turn_at (h.state.st.cell rfl)
theorem Duel.seal (k : Nat) (hk : k < 2) (h : Duel w lk lo mb sb tb p0 p1 wl wt wc S hv gv uv bs g n hs f0 (decide (k = 0)) f1 (decide (k = 1)) sv) :
    Calls Pz.prog 124 #[.pointer (some ⟨mb, 0, none⟩)] w fun e w' => ∃ v, e = .returned v ∧ RowAt w' 171 5 v 1 (rcCells (gives k)) ∧ (∃ j, v.ownBlock = some j ∧ w.heap.size ≤ j) ∧
      Duel w' lk lo mb sb tb p0 p1 wl wt wc S hv gv uv bs g n hs f0 false f1 false sv ∧ Below lo w w' := by
  have nd := h.nd
  simp only [List.nodup_cons, List.mem_cons, List.not_mem_nil, or_false, not_or] at nd
  have q0 := h.low p0 (by simp)
  have q1 := h.low p1 (by simp)
  have z0 := h.a.lt
  have key : ∀ e w', (∃ v, e = Ending.returned v ∧ RowAt w' 171 5 v 1 (rcCells (gives k)) ∧ (∃ k, v.ownBlock = some k ∧ w.heap.size ≤ k) ∧
      BlkAt w' p0 [.int .i64 0, .string ⟨#[97]⟩, .int .i64 0, .slice none 0 0, .bool f0, .bool false] 184 ∧ BlkAt w' p1 [.int .i64 1, .string ⟨#[98]⟩, .int .i64 0, .slice none 0 0, .bool f1, .bool false] 184 ∧ But2 w w' p0 p1) → ∃ v, e = .returned v ∧ RowAt w' 171 5 v 1 (rcCells (gives k)) ∧ (∃ j, v.ownBlock = some j ∧ w.heap.size ≤ j) ∧
      Duel w' lk lo mb sb tb p0 p1 wl wt wc S hv gv uv bs g n hs f0 false f1 false sv ∧ Below lo w w' := by
    rintro e w' ⟨v, he, hr, hj, ha, hb, hB⟩
    exact ⟨v, he, hr, hj, h.players hB.block ha hb, ⟨hB.os, hB.tape, hB.output, hB.size, fun j hj => hB.block j (by omega) (by omega) (by omega)⟩⟩
  have hc : k = 0 ∨ k = 1 := by omega
  rcases hc with rfl | rfl
  · exact (seal_first (h.cells.cell rfl) h.seats h.a h.b (by omega) (by omega) (by omega) (by omega) (by omega)).mono key
  · exact (seal_second (h.cells.cell rfl) h.seats h.a h.b (by omega) (by omega) (by omega) (by omega) (by omega)).mono key
theorem Duel.tell (t : ByteArray) (h : Duel w lk lo mb sb tb p0 p1 wl wt wc S hv gv uv bs g n hs f0 l0 f1 l1 (.slice none 0 0)) {tv : Value} {cs : List RC} {m : Nat} (hr : RowAt w 171 5 tv m (rcCells cs)) (ht : tv.ownBlock ≠ some wt) :
    Calls Pz.prog 125 #[.pointer (some ⟨mb, 0, none⟩), .string t] w fun e w' => e = .returned (.tuple #[]) ∧ ∃ v, Duel w' lk lo mb sb tb p0 p1 wl wt wc S hv gv uv bs g n hs f0 l0 f1 l1 v ∧ RowAt w' 9 1 v 1 [.string t] ∧ RowAt w' 171 5 tv m (rcCells cs) ∧ Below lo w w' := by
  have q := h.low wt (by simp)
  have z := h.wat.lt
  refine (tell_one t (h.cells.cell rfl) h.wrow h.wat).mono ?_
  rintro e w' ⟨he, v, hrow, hob, hb, hB⟩
  exact ⟨he, v, h.told hB.block hb, hrow, hr.same fun k e => hB.block k (hr.lt e) (fun e2 => ht (e2 ▸ e)), ⟨hB.os, hB.tape, hB.output, hB.size, fun j hj => hB.block j (by omega) (by omega)⟩⟩
theorem Duel.does (h : Duel w lk lo mb sb tb p0 p1 wl wt wc S hv gv uv bs g n hs f0 l0 f1 l1 sv) (hlo : lo ≤ w.heap.size) {tv : Value} (cs : List RC) (hcs : ∀ k, k < cs.length → (cs.getD k rc0).ok) (hcl : cs.length ≤ 36) (h0 : 0 < cs.length) (hr : RowAt w 171 5 tv cs.length (rcCells cs)) {old : Nat} (hold : PAt w (fun k => (lo ≤ k ∧ k ∉ [mb, tb, p0, p1, wl, wt] ∧ hv.ownBlock ≠ some k) ∧ k < old) sb (toPS S) gv uv bs) (ht : ∀ k, tv.ownBlock = some k → old ≤ k) (t0 : 0 ≤ S.turn) (t1 : S.turn ≤ 1000) :
    Calls Pz.prog 40 #[.pointer (some ⟨sb, 0, none⟩), tv] w fun e w' => e = .returned (.tuple #[]) ∧ ∃ uv' g' bs', Duel w' lk lo mb sb tb p0 p1 wl wt wc (doF S cs) hv gv uv' bs' g' n hs f0 l0 f1 l1 sv ∧ Below lo w w' := by
  refine (PDo_any cs hcs hcl hold h.ub h.inv t0 t1 (.inr ⟨h0, hr, fun k e ho => by have := ht k e; omega⟩)).mono ?_
  rintro e w' ⟨he, ⟨uv', g', bs', hu, hp⟩, hk⟩
  exact ⟨he, uv', g', bs', h.did (fun k ho => ho.1) hlo hk hp hu (h.inv.doF cs), ⟨hk.os, hk.tape, hk.output, hk.size, fun j hj => hk.block j (by omega) (fun ho => by have := ho.1.1; omega)⟩⟩
theorem Duel.hash (h : Duel w lk lo mb sb tb p0 p1 wl wt wc S hv gv uv bs g n hs f0 l0 f1 l1 sv) (hlo : lo ≤ w.heap.size) (hn : n ≤ 100000) (hd : w.cell? ⟨4, 15, none⟩ = some (.int .u8 4)) :
    Calls Pz.prog 115 #[.pointer (some ⟨mb, 0, none⟩)] w fun e w' => e = .returned (.tuple #[]) ∧ ∃ hv', Duel w' lk lo mb sb tb p0 p1 wl wt wc S hv' gv uv bs g (n + 1) (hs ++ [.string (hash16 (bytesF S))]) f0 l0 f1 l1 sv ∧ Below lo w w' := by
  have hbig : (bytesF S).size ≤ 100000 := by have := bytesF_size _ h.inv; omega
  have q := h.low mb (by simp)
  refine (keepHash_gen h.cells h.row hn (fun e => (h.hl _ e).2 (by simp)) h.state h.ub h.inv hbig hd).mono ?_
  rintro e w' ⟨he, hv', hH⟩
  exact ⟨he, hv', h.hashed hlo hH, ⟨hH.os, hH.tape, hH.output, hH.size, fun j hj => hH.block j (by omega) (by omega) (fun e => by have := (h.hl _ e).1; omega)⟩⟩
set_option maxHeartbeats 4000000 in
set_option maxRecDepth 20000 in
theorem mtick_duel (k : Nat) (hk : k < 2) (h : Duel w 0 lo mb sb tb p0 p1 wl wt wc S hv gv uv bs g n hs f0 (decide (k = 0)) f1 (decide (k = 1)) (.slice none 0 0)) (hlo : lo ≤ w.heap.size) (hov : overB S = false) (t0 : 0 ≤ S.turn) (t1 : S.turn < 1000) (hn : n ≤ 100000)
    (hd : w.cell? ⟨4, 15, none⟩ = some (.int .u8 4)) (hdl : 4 < lo) :
    Calls Pz.prog 72 #[.pointer (some ⟨mb, 0, none⟩)] w fun e w' => e = .returned (.tuple #[]) ∧ ∃ hv' uv' bs' g' sv', Duel w' 0 lo mb sb tb p0 p1 wl wt wc (doF S (gives k)) hv' gv uv' bs' g' (n + 1) (hs ++ [.string (hash16 (bytesF (doF S (gives k))))]) f0 false f1 false sv' ∧ Below lo w w' := by
  have h0 : w.cell? ⟨mb, 0, none⟩ = some (.int .i32 0) := h.cells.cell rfl
  have fr0 : w.frozen? ⟨mb, 0, none⟩ = false := h.cells.free 0
  have h1 := h.locks 1
  have q := h.low mb (by simp)
  have HL := (show Hid _ from lock_free muLib ⟨mb, 0, none⟩ w h0 fr0)
  have HB1 : Hid (Below lo w (w.setCell ⟨mb, 0, none⟩ (.int .i32 1))) := Below.setCell (Below.refl _ _) q _
  have hs1 : (w.setCell ⟨mb, 0, none⟩ (.int .i32 1)).heap.size = w.heap.size := by simp
  clear h h0 fr0
  generalize hw1 : w.setCell ⟨mb, 0, none⟩ (.int .i32 1) = w1 at *
  clear hw1
  have HPh := (show Hid _ from h1.phase)
  rw [hov, if_neg (by simp)] at HPh
  have HD1 := (show Hid _ from h1)
  have wlt : wt < w1.heap.size := h1.wat.lt
  have HDB : Hid (∀ W, Below lo w W → W.cell? ⟨4, 15, none⟩ = some (.int .u8 4)) := fun W hW => (hW.cell hdl).trans hd
  have hlo1 : lo ≤ w1.heap.size := by omega
  have hok : Hid (∀ i, i < (gives k).length → ((gives k).getD i rc0).ok) := by
    intro i hi
    have : i = 0 := by simp [gives] at hi; omega
    subst this
    show RC.ok ⟨(k : Int), 0, 0, 0, 0⟩
    unfold RC.ok
    simp
    try omega
  clear h1 hov hd
  go_enter_defers Pz.func72, Tryz.ntmps72
  go_wp2_with (first
    | (go_at_call 89; refine Calls.mono HL.out ?_; rintro e w' ⟨rfl, rfl⟩)
    | (go_at_call 91; refine Calls.mono HPh.out ?_; rintro e w2 ⟨rfl, hb2⟩; have HD2 := (show Hid _ from HD1.out.below hb2); have HB2 := (show Hid _ from HB1.out.trans (hb2.mono hlo1)); have c25 := HD2.out.cells.cell (i := 5) rfl; have c22 := HD2.out.cells.cell (i := 2) rfl; have hz2 := hb2.size; have HZ2 := (show Hid _ from hb2); clear hb2)
    | (go_at_call 92; refine Calls.mono HD2.out.turn ?_; rintro e w3 ⟨rfl, rfl⟩)
    | (go_at_call 124; refine Calls.mono (Duel.seal k hk HD2.out) ?_; rintro e w4 ⟨v, rfl, hr4, hj4, hD4, hb4⟩; have HR4 := (show Hid _ from hr4); have HJ4 := (show Hid _ from hj4); have HD4 := (show Hid _ from hD4); have HB4 := (show Hid _ from hb4); clear hr4 hj4 hD4 hb4)
    | (go_at_call 126; refine Calls.mono (WTurn_any (gives k) (by simp [gives]) (.inr ⟨by simp [gives], HR4.out⟩)) ?_; rintro e w5 ⟨rfl, hb5⟩; have HB5 := (show Hid _ from hb5); clear hb5; generalize strOfNums (turnN (gives k)) = tt)
    | (go_at_call 125; refine Calls.mono (Duel.tell tt (HD4.out.below HB5.out) (RowAt.same HR4.out fun j e => HB5.out.block j (RowAt.lt HR4.out e)) (fun e => by obtain ⟨j, e2, hj⟩ := HJ4.out; rw [e] at e2; cases e2; omega)) ?_; rintro e w6 ⟨rfl, sv6, hD6, hrs6, hr6, hb6⟩; have HD6 := (show Hid _ from hD6); have HR6 := (show Hid _ from hr6); have HB6 := (show Hid _ from hb6); have c62 := hD6.cells.cell (i := 2) rfl; clear hD6 hrs6 hr6 hb6)
    | (go_at_call 40; refine Calls.mono (Duel.does HD6.out (Nat.le_trans (Nat.le_trans (Nat.le_trans (Nat.le_trans hlo1 hz2) HB4.out.size) HB5.out.size) HB6.out.size) (gives k) hok.out (by simp [gives]) (by simp [gives]) HR6.out (HD6.out.state.with (HD2.out.state.own fun j ho hl => ⟨ho, hl⟩)) (fun j e => by obtain ⟨j2, e2, hj⟩ := HJ4.out; rw [e] at e2; cases e2; exact hj) t0 (by omega)) ?_; rintro e w7 ⟨rfl, uv7, g7, bs7, hD7, hb7⟩; have HD7 := (show Hid _ from hD7); have HB7 := (show Hid _ from hb7); clear hD7 hb7)
    | (go_at_call 115; have HZ7 := (show Hid (Below lo w w7) from (((HB2.out.trans HB4.out).trans (HB5.out.mono (Nat.le_trans (Nat.le_trans hlo1 hz2) HB4.out.size))).trans HB6.out).trans HB7.out); refine Calls.mono (Duel.hash HD7.out (Nat.le_trans hlo HZ7.out.size) hn (HDB.out _ HZ7.out)) ?_; rintro e w8 ⟨rfl, hv8, hD8, hb8⟩; have HD8 := (show Hid _ from hD8); have HB8 := (show Hid _ from HZ7.out.trans hb8); clear hD8 hb8))
  have hD8 := HD8.out
  refine leaves_cons (f := 90) (args := #[.pointer (some ⟨mb, 0, none⟩)]) (by simp) (by simp [go_sem]) ?_
  refine (unlock_deferred muLib ⟨mb, 0, none⟩ .returning _ (hD8.cells.cell rfl) (hD8.cells.free 0)).mono ?_
  rintro e u' w'' ⟨rfl, rfl, rfl⟩
  exact ⟨_, results_none rfl _ _ _, rfl, hv8, uv7, bs7, g7, sv6, hD8.locks 0, HB8.out.setCell (p := ⟨mb, 0, none⟩) q _⟩
end
end Go.Proofs.YtdianedehhecoaaGreatDoor
