/- A match in memory: where its parts lie. -/
import Derived.Test.YtdianedehhecoaaGreatDoorProgFold
import Derived.Test.YtdianedehhecoaaGreatDoorBase
import Derived.Conc.MuLone
import Derived.Conc.MuLib
import Derived.KernelRfl
import Derived.Lib.UnsafeStr
import Derived.Lib.BufferWrite
import Derived.Deep.WholeRow
import Derived.Deep.RegionHeld3
import Derived.Defers
namespace Go.Proofs.YtdianedehhecoaaGreatDoor
open Go.RowKit
set_option linter.unusedVariables false
set_option linter.unusedSimpArgs false

theorem PAt.on {w w' : World} {O : Nat → Prop} {b : Nat} {S : PS} {gv uv : Value} {bs : List Nat} (h : PAt w O b S gv uv bs) (hk : ∀ k, O k → k < w.heap.size → w'.heap[k]? = w.heap[k]?) : PAt w' O b S gv uv bs :=
  ⟨h.ore, h.blen, h.st.same (hk _ h.ob h.st.lt), h.gold.same fun k e => hk _ (h.og k e).1 (h.gold.lt e), h.units.same fun k e => hk _ (h.ou k e).1 (h.units.lt e),
    fun i hi => (h.each i hi).same (hk _ (h.oe _ (by
      have hb := h.blen
      rw [show bs.getD i 0 = bs[i]'(by omega) by simp [List.getD, show i < bs.length by omega]]
      exact List.getElem_mem _)).1 (h.each i hi).lt), h.kinds, h.nodup, h.ob, h.og, h.ou, h.oe⟩
theorem PAt.own {w : World} {O O' : Nat → Prop} {b : Nat} {S : PS} {gv uv : Value} {bs : List Nat} (h : PAt w O b S gv uv bs) (hk : ∀ k, O k → k < w.heap.size → O' k) : PAt w O' b S gv uv bs :=
  ⟨h.ore, h.blen, h.st, h.gold, h.units, h.each, h.kinds, h.nodup, hk _ h.ob h.st.lt, fun k e => ⟨hk _ (h.og k e).1 (h.gold.lt e), (h.og k e).2⟩, fun k e => ⟨hk _ (h.ou k e).1 (h.units.lt e), (h.ou k e).2⟩,
    fun k e => ⟨hk _ (h.oe k e).1 (by
      obtain ⟨i, hi, rfl⟩ := List.getElem_of_mem e
      have hb := h.blen
      have := (h.each i (by omega)).lt
      rw [show bs.getD i 0 = bs[i] by simp [List.getD, hi]] at this
      exact this), (h.oe k e).2⟩⟩

/-- a player of a match, just joined -/
def playerV (i : Nat) : List Value := [.int .i64 i, .string ⟨#[(97 + i).toUInt8]⟩, .int .i64 0, .slice none 0 0, .bool false, .bool false]
def seatV (pbs : List Nat) (P : Nat) : List Value := pbs.map (fun b => .pointer (some ⟨b, 0, none⟩)) ++ List.replicate (P - pbs.length) (.pointer none)
theorem seatV_length (pbs : List Nat) (P : Nat) (h : pbs.length ≤ P) : (seatV pbs P).length = P := by
  unfold seatV
  simp
  omega
theorem seatV_there (pbs : List Nat) (P i : Nat) (h : i < pbs.length) : (seatV pbs P)[i]? = some (.pointer (some ⟨pbs.getD i 0, 0, none⟩)) := by
  unfold seatV
  rw [List.getElem?_append_left (by simpa using h)]
  simp [List.getD, h]
theorem seatV_free (pbs : List Nat) (P i : Nat) (h : pbs.length ≤ i) (hi : i < P) : (seatV pbs P)[i]? = some (.pointer none) := by
  unfold seatV
  rw [List.getElem?_append_right (by simpa using h), List.getElem?_replicate]
  simp
  omega
theorem seatV_set (pbs : List Nat) (P b : Nat) (h : pbs.length < P) : (seatV pbs P).set pbs.length (.pointer (some ⟨b, 0, none⟩)) = seatV (pbs ++ [b]) P := by
  unfold seatV
  rw [List.set_append_right _ _ (by simp)]
  have e : P - pbs.length = (P - (pbs.length + 1)) + 1 := by omega
  simp [e, List.replicate_succ]
/-- where a match lies, of which nothing is done yet: lk: its lock; n: so many have joined -/
structure MParts (w : World) (lk : Int) (lo mb : Nat) (sd : Int) (P : Nat) (sb hb cap tb : Nat) (gv uv : Value) (bs : List Nat) (g : Nat) (pbs : List Nat) : Prop where
  le : pbs.length ≤ P
  cells : BlkAt w mb [.int .i32 lk, .int .u32 0, .pointer (some ⟨sb, 0, none⟩), .slice (some ⟨hb, 0, none⟩) 1 cap, .slice (some ⟨tb, 0, none⟩) P P, .bool false, .slice none 0 0] 136
  hash : w.cell? ⟨hb, 0, none⟩ = some (.string (hash16 (bytesF (startTo sd P))))
  seats : BlkAt w tb (seatV pbs P) 182
  players : ∀ i, i < pbs.length → BlkAt w (pbs.getD i 0) (playerV i) 184
  ub : uv.ownBlock = some g
  state : PAt w (fun k => lo ≤ k ∧ k ≠ mb ∧ k ≠ tb ∧ k ≠ hb ∧ k ∉ pbs) sb (toPS (startTo sd P)) gv uv bs
  lm : lo ≤ mb
  lt : lo ≤ tb
  lh : lo ≤ hb
  lp : ∀ k, k ∈ pbs → lo ≤ k ∧ k ≠ mb ∧ k ≠ tb ∧ k ≠ hb
  d1 : mb ≠ tb
  d2 : mb ≠ hb
  d3 : tb ≠ hb
theorem MParts.on {w w' : World} {lk : Int} {lo mb : Nat} {sd : Int} {P sb hb cap tb : Nat} {gv uv : Value} {bs : List Nat} {g : Nat} {pbs : List Nat} (h : MParts w lk lo mb sd P sb hb cap tb gv uv bs g pbs) (hk : ∀ k, lo ≤ k → k < w.heap.size → w'.heap[k]? = w.heap[k]?) : MParts w' lk lo mb sd P sb hb cap tb gv uv bs g pbs :=
  { h with
    cells := h.cells.same (hk _ h.lm h.cells.lt)
    hash := (World.cell?_of_block (w := w) (hk _ h.lh (cell_lt h.hash))).trans h.hash
    seats := h.seats.same (hk _ h.lt h.seats.lt)
    players := fun i hi => (h.players i hi).same (hk _ (h.lp _ (by
      rw [show pbs.getD i 0 = pbs[i] by simp [List.getD, hi]]
      exact List.getElem_mem _)).1 (h.players i hi).lt)
    state := h.state.on fun k ho hl => hk k ho.1 hl }
theorem MParts.below {w w' : World} {lk : Int} {lo mb : Nat} {sd : Int} {P sb hb cap tb : Nat} {gv uv : Value} {bs : List Nat} {g : Nat} {pbs : List Nat} (h : MParts w lk lo mb sd P sb hb cap tb gv uv bs g pbs) (hb' : Below w.heap.size w w') : MParts w' lk lo mb sd P sb hb cap tb gv uv bs g pbs :=
  h.on fun k _ hk => hb'.block k hk
/-- the lock, taken or let go -/
theorem MParts.locks {w : World} {lk : Int} {lo mb : Nat} {sd : Int} {P sb hb cap tb : Nat} {gv uv : Value} {bs : List Nat} {g : Nat} {pbs : List Nat} (h : MParts w lk lo mb sd P sb hb cap tb gv uv bs g pbs) (l2 : Int) : MParts (w.setCell ⟨mb, 0, none⟩ (.int .i32 l2)) l2 lo mb sd P sb hb cap tb gv uv bs g pbs :=
  { h with
    cells := h.cells.set 0 (.int .i32 l2)
    hash := (World.cell?_of_block (w := w) (Below.heap_setCell w ⟨mb, 0, none⟩ _ hb (Ne.symm h.d2))).trans h.hash
    seats := h.seats.other (Ne.symm h.d1)
    players := fun i hi => (h.players i hi).other (h.lp _ (by
      rw [show pbs.getD i 0 = pbs[i] by simp [List.getD, hi]]
      exact List.getElem_mem _)).2.1
    state := h.state.on fun k ho hl => Below.heap_setCell w ⟨mb, 0, none⟩ _ k ho.2.1 }
end Go.Proofs.YtdianedehhecoaaGreatDoor

/- The lock's functions and types in this program, by number. -/
namespace Go.Proofs.YtdianedehhecoaaGreatDoor
abbrev muLink : Go.Conc.Locks.MuLink := { lock := 89, unlock := 90, ilock := 154, iunlock := 155, lockSlow := 198, unlockSlow := 200, disable := 127, enable := 129, acquire := 130, relMerge := 174, cas32 := 197, add32 := 199, tMutex := 132, tIMutex := 130, tPMutex := 258, tPIMutex := 296, tPI32 := 298, tUP := 115, tNoCopy := 127, tU32 := 128 }
theorem muLib : Go.Conc.Locks.MuLib Tryz.prog muLink :=
  ⟨Tryz.func89, Tryz.func90, Tryz.func154, Tryz.func155, Tryz.func127, Tryz.func129, Tryz.func130, Tryz.func174, Tryz.func197, Tryz.func199, Tryz.underlying130, Tryz.runUnderlying130, Tryz.sizeOf130, Tryz.isAgg130, Tryz.zeroValue130, Tryz.underlying132, Tryz.runUnderlying132, Tryz.sizeOf132, Tryz.isAgg132, Tryz.zeroValue132, Tryz.underlying258, Tryz.runUnderlying258, Tryz.sizeOf258, Tryz.isAgg258, Tryz.zeroValue258, Tryz.underlying296, Tryz.runUnderlying296, Tryz.sizeOf296, Tryz.isAgg296, Tryz.zeroValue296, Tryz.underlying298, Tryz.runUnderlying298, Tryz.sizeOf298, Tryz.isAgg298, Tryz.zeroValue298, Tryz.underlying115, Tryz.runUnderlying115, Tryz.sizeOf115, Tryz.isAgg115, Tryz.zeroValue115, Tryz.underlying127, Tryz.runUnderlying127, Tryz.sizeOf127, Tryz.isAgg127, Tryz.zeroValue127, Tryz.underlying21, Tryz.runUnderlying21, Tryz.sizeOf21, Tryz.isAgg21, Tryz.zeroValue21, (by kernel_rfl)⟩
end Go.Proofs.YtdianedehhecoaaGreatDoor

/- Small functions of a match: which seat is free, who is named so. -/
namespace Go.Proofs.YtdianedehhecoaaGreatDoor
open Go.RowKit
set_option linter.unusedVariables false
set_option linter.unusedSimpArgs false

theorem eql_nil_some (a : Addr) (w : World) : (binOp .eql 182 (.pointer none) (.pointer (some a))).run Tryz.prog w = .ok (.bool false) w := by kernel_rfl
theorem eql_nil_nil (w : World) : (binOp .eql 182 (.pointer none) (.pointer none)).run Tryz.prog w = .ok (.bool true) w := by kernel_rfl
def freeF (n P : Nat) : Int := if n < P then n else -1
section
variable {w : World} {lk : Int} {lo mb : Nat} {sd : Int} {P sb hb cap tb : Nat} {gv uv : Value} {bs : List Nat} {g : Nat} {pbs : List Nat}
theorem MParts.there (h : MParts w lk lo mb sd P sb hb cap tb gv uv bs g pbs) {i : Nat} (hi : i < pbs.length) : w.cell? ⟨tb, i, none⟩ = some (.pointer (some ⟨pbs.getD i 0, 0, none⟩)) := h.seats.cell (seatV_there pbs P i hi)
theorem MParts.free (h : MParts w lk lo mb sd P sb hb cap tb gv uv bs g pbs) {i : Nat} (h1 : pbs.length ≤ i) (hi : i < P) : w.cell? ⟨tb, i, none⟩ = some (.pointer none) := h.seats.cell (seatV_free pbs P i h1 hi)

set_option maxHeartbeats 2000000 in
set_option maxRecDepth 20000 in
theorem index_any (h : MParts w lk lo mb sd P sb hb cap tb gv uv bs g pbs) (hP : P ≤ 4) :
    Calls Tryz.prog 171 #[.slice (some ⟨tb, 0, none⟩) P P, .pointer none] w fun e w' => e = .returned (.int .i64 (freeF pbs.length P)) ∧ w' = w := by
  have hth : ∀ i : Nat, i < pbs.length → w.cell? ⟨tb, i, none⟩ = some (.pointer (some ⟨pbs.getD i 0, 0, none⟩)) := fun i hi => h.there hi
  have hfr : pbs.length < P → w.cell? ⟨tb, pbs.length, none⟩ = some (.pointer none) := fun hp => h.free (Nat.le_refl _) hp
  have hle := h.le
  have HF : Hid (∀ n : Nat, n < P → freeF n P = n) := fun n hn => by unfold freeF; rw [if_pos hn]
  have HG : Hid (¬ pbs.length < P → freeF pbs.length P = -1) := fun hn => by unfold freeF; rw [if_neg hn]
  have HTH := (show Hid _ from hth)
  have HFR := (show Hid _ from hfr)
  clear h hth hfr
  generalize pbs.length = n at *
  go_enter Tryz.func171, Tryz.ntmps171
  go_wp2
  go_loop [8] (fun i => ∃ k : Nat, k ≤ n ∧ i = .int .i64 k) (fun i => P - (intOf i).toNat)
  case atStart => exact ⟨0, by omega, rfl⟩
  case round =>
    obtain ⟨k, hk, rfl⟩ := hrel
    by_cases hlt : k < n
    · have hcell := HTH.out k hlt
      have hkP : k < P := by omega
      generalize pbs.getD k 0 = ub at hcell
      have hne := eql_nil_some ⟨ub, 0, none⟩
      go_wp2
      go_round
      case rel => exact ⟨k + 1, by omega, by go_num⟩
      case measure => simp [intOf]; omega
    · have hkn : k = n := by omega
      subst hkn
      by_cases hP' : k < P
      · have hcell := HFR.out hP'
        have hne := eql_nil_nil
        go_wp2
        go_ret
        exact ⟨by rw [HF.out k hP']; rfl, rfl⟩
      · go_wp2
        go_ret
        exact ⟨by rw [HG.out hP']; rfl, rfl⟩
set_option maxHeartbeats 2000000 in
set_option maxRecDepth 20000 in
theorem freeSeat_any (h : MParts w lk lo mb sd P sb hb cap tb gv uv bs g pbs) (hP : P ≤ 4) :
    Calls Tryz.prog 116 #[.pointer (some ⟨mb, 0, none⟩)] w fun e w' => e = .returned (.int .i64 (freeF pbs.length P)) ∧ w' = w := by
  have HI := (show Hid _ from index_any h hP)
  have h4 : w.cell? ⟨mb, 4, none⟩ = some (.slice (some ⟨tb, 0, none⟩) P P) := h.cells.cell rfl
  clear h
  generalize freeF pbs.length P = r at *
  go_enter Tryz.func116, Tryz.ntmps116
  go_wp2_with (go_at_call 171; refine Calls.mono HI.out ?_; rintro e w' ⟨rfl, rfl⟩)
  go_ret
  exact ⟨rfl, rfl⟩
theorem names_ne (i n : Nat) (h : i < n) (hn : n ≤ 4) : ((⟨#[(97 + i).toUInt8]⟩ : ByteArray).toList == (⟨#[(97 + n).toUInt8]⟩ : ByteArray).toList) = false := by
  have h1 : n = 1 ∨ n = 2 ∨ n = 3 ∨ n = 4 := by omega
  have h2 : i = 0 ∨ i = 1 ∨ i = 2 ∨ i = 3 := by omega
  rw [ByteArray.toList_eq, ByteArray.toList_eq]
  rcases h1 with rfl | rfl | rfl | rfl <;> rcases h2 with rfl | rfl | rfl | rfl <;> first | omega | rfl | kernel_rfl | decide
set_option maxHeartbeats 2000000 in
set_option maxRecDepth 20000 in
theorem named_any (h : MParts w lk lo mb sd P sb hb cap tb gv uv bs g pbs) (hP : P ≤ 4) :
    Calls Tryz.prog 96 #[.pointer (some ⟨mb, 0, none⟩), .string ⟨#[(97 + pbs.length).toUInt8]⟩] w fun e w' => e = .returned (.pointer none) ∧ w' = w := by
  have HTH : Hid (∀ i : Nat, i < pbs.length → w.cell? ⟨tb, i, none⟩ = some (.pointer (some ⟨pbs.getD i 0, 0, none⟩)) ∧ w.cell? ⟨pbs.getD i 0, 1, none⟩ = some (.string ⟨#[(97 + i).toUInt8]⟩)) := fun i hi => ⟨h.there hi, (h.players i hi).cell rfl⟩
  have HFR : Hid (∀ i : Nat, pbs.length ≤ i → i < P → w.cell? ⟨tb, i, none⟩ = some (.pointer none)) := fun i h1 h2 => h.free h1 h2
  have hle := h.le
  have h4 : w.cell? ⟨mb, 4, none⟩ = some (.slice (some ⟨tb, 0, none⟩) P P) := h.cells.cell rfl
  clear h
  generalize pbs.length = n at *
  have HN : Hid (∀ i : Nat, i < n → ((⟨#[(97 + i).toUInt8]⟩ : ByteArray).toList == (⟨#[(97 + n).toUInt8]⟩ : ByteArray).toList) = false) := fun i hi => names_ne i n hi (by omega)
  generalize (⟨#[(97 + n).toUInt8]⟩ : ByteArray) = s at *
  go_enter Tryz.func96, Tryz.ntmps96
  go_wp2
  go_loop [12] (fun i => ∃ k : Nat, k ≤ P ∧ i = .int .i64 k) (fun i => P - (intOf i).toNat)
  case atStart => exact ⟨0, by omega, rfl⟩
  case round =>
    obtain ⟨k, hk, rfl⟩ := hrel
    by_cases hlt : k < P
    · by_cases hkn : k < n
      · obtain ⟨hc1, hc2⟩ := HTH.out k hkn
        have hs := HN.out k hkn
        generalize pbs.getD k 0 = ub at *
        generalize (⟨#[(97 + k).toUInt8]⟩ : ByteArray) = t at *
        go_wp2
        go_round
        case rel => exact ⟨k + 1, by omega, by go_num⟩
        case measure => simp [intOf]; omega
      · have hc1 := HFR.out k (by omega) hlt
        go_wp2
        go_round
        case rel => exact ⟨k + 1, by omega, by go_num⟩
        case measure => simp [intOf]; omega
    · go_wp2
      go_ret
      exact ⟨rfl, rfl⟩
end
end Go.Proofs.YtdianedehhecoaaGreatDoor

/- strings.Clone of one byte. -/
namespace Go.Proofs.YtdianedehhecoaaGreatDoor
open Go.RowKit
set_option linter.unusedVariables false
set_option linter.unusedSimpArgs false

set_option maxHeartbeats 2000000 in
set_option maxRecDepth 20000 in
theorem sclone1_any (c : UInt8) (w : World) :
    Calls Tryz.prog 172 #[.string ⟨#[c]⟩] w fun e w' => e = .returned (.string ⟨#[c]⟩) ∧ Below w.heap.size w w' := by
  have hmk : ∀ w, (Instr.makeSlice 55 (.int .i64 1) (.int .i64 1)).run Tryz.prog w = .ok (.slice (some ⟨w.heap.size, 0, none⟩) 1 1) (w.alloc (.cells #[.int .u8 0] 5)) := fun _ => by kernel_rfl
  have hcp : (Builtin.copy_ #[55, 9] 3 #[.slice (some ⟨w.heap.size, 0, none⟩) 1 1, .string ⟨#[c]⟩]).run Tryz.prog (w.alloc (.cells #[.int .u8 0] 5)) = .ok (.int .i64 1) (w.alloc (.cells #[.int .u8 c.toNat] 5)) := by
    have h := Go.Lib.run_copy_row_string (P := Tryz.prog) (w.alloc (.cells #[.int .u8 0] 5)) 55 9 3 5 w.heap.size 0 1 1 ⟨#[c]⟩ #[.int .u8 0] 5 Tryz.underlying55 (by kernel_rfl) (BlkAt.new w [.int .u8 0] 5) (Nat.le_refl _) (Nat.le_refl _)
    rw [World.setRow_alloc_new] at h
    exact h
  have hus : (Builtin.unsafeString_ #[295, 3] 9 #[.pointer (some ⟨w.heap.size, 0, none⟩), .int .i64 1]).run Tryz.prog (w.alloc (.cells #[.int .u8 c.toNat] 5)) = .ok (.string ⟨#[c]⟩) ((w.alloc (.cells #[.int .u8 c.toNat] 5)).freeze ⟨w.heap.size, 0, none⟩ 1) := by
    refine Go.Lib.run_unsafeString_row (P := Tryz.prog) _ 295 3 9 5 (by kernel_rfl) (by kernel_rfl) w.heap.size 1 ?_ [c] (by simp) (Nat.le_refl _) (by simp) ?_
    · have h := BlkAt.new w [.int .u8 c.toNat] 5
      unfold BlkAt at h
      unfold World.shape?
      rw [h]
      simp
    · intro j x hx
      have h := BlkAt.new w [.int .u8 c.toNat] 5
      have hj : j = 0 := by
        have := (List.getElem?_eq_some_iff.1 hx).1
        simp at this
        exact this
      subst hj
      simp at hx
      subst hx
      exact h.cell rfl
  have hbel : Below w.heap.size w ((w.alloc (.cells #[.int .u8 c.toNat] 5)).freeze ⟨w.heap.size, 0, none⟩ 1) := Go.Lib.below_freeze ((Below.refl _ _).alloc (Nat.le_refl _) _) (Nat.le_refl _) 1
  generalize (w.alloc (.cells #[.int .u8 c.toNat] 5)).freeze ⟨w.heap.size, 0, none⟩ 1 = W3 at *
  go_enter Tryz.func172, Tryz.ntmps172
  go_wp2
  go_ret
  exact ⟨rfl, hbel⟩
set_option maxHeartbeats 2000000 in
set_option maxRecDepth 20000 in
theorem clone1_any (c : UInt8) (w : World) :
    Calls Tryz.prog 117 #[.string ⟨#[c]⟩] w fun e w' => e = .returned (.string ⟨#[c]⟩) ∧ Below w.heap.size w w' := by
  have H := (show Hid _ from sclone1_any c w)
  go_enter Tryz.func117, Tryz.ntmps117
  go_wp2_with (go_at_call 172; refine Calls.mono H.out ?_; rintro e w' ⟨rfl, hb⟩)
  go_ret
  exact ⟨rfl, hb⟩
end Go.Proofs.YtdianedehhecoaaGreatDoor

/- Join: one more player. -/
namespace Go.Proofs.YtdianedehhecoaaGreatDoor
open Go.RowKit Go.MuLone
set_option linter.unusedVariables false
set_option linter.unusedSimpArgs false

section
variable {w : World} {lk : Int} {lo mb : Nat} {sd : Int} {P sb hb cap tb : Nat} {gv uv : Value} {bs : List Nat} {g : Nat} {pbs : List Nat}
theorem MParts.joined (h : MParts w lk lo mb sd P sb hb cap tb gv uv bs g pbs) (hn : pbs.length < P) (hlo : lo ≤ w.heap.size) :
    MParts ((w.setCell ⟨tb, pbs.length, none⟩ (.pointer (some ⟨w.heap.size, 0, none⟩))).alloc (.cells (playerV pbs.length).toArray 184)) lk lo mb sd P sb hb cap tb gv uv bs g (pbs ++ [w.heap.size]) := by
  have hs : (w.setCell ⟨tb, pbs.length, none⟩ (.pointer (some ⟨w.heap.size, 0, none⟩))).heap.size = w.heap.size := by simp
  have hml := h.cells.lt
  have htl := h.seats.lt
  have hhl : hb < w.heap.size := cell_lt h.hash
  have hmem : ∀ i, i < pbs.length → pbs.getD i 0 ∈ pbs := fun i hi => by
    rw [show pbs.getD i 0 = pbs[i] by simp [List.getD, hi]]
    exact List.getElem_mem _
  have hblk : ∀ k, k ≠ tb → k < w.heap.size → ((w.setCell ⟨tb, pbs.length, none⟩ (.pointer (some ⟨w.heap.size, 0, none⟩))).alloc (.cells (playerV pbs.length).toArray 184)).heap[k]? = w.heap[k]? := fun k h1 h2 =>
    (Below.heap_alloc _ _ _ (by rw [hs]; exact h2)).trans (Below.heap_setCell w ⟨tb, pbs.length, none⟩ _ k h1)
  exact
  { le := by simp; omega
    cells := h.cells.same (hblk _ h.d1 hml)
    hash := (World.cell?_of_block (w := w) (hblk _ (Ne.symm h.d3) hhl)).trans h.hash
    seats := by
      rw [← seatV_set pbs P w.heap.size hn]
      exact (h.seats.set _ _).alloc _
    players := fun i hi => by
      simp at hi
      by_cases hi2 : i < pbs.length
      · rw [show (pbs ++ [w.heap.size]).getD i 0 = pbs.getD i 0 by simp [List.getD, List.getElem?_append_left hi2]]
        exact (h.players i hi2).same (hblk _ (h.lp _ (hmem i hi2)).2.2.1 (h.players i hi2).lt)
      · have e : i = pbs.length := by omega
        subst e
        rw [show (pbs ++ [w.heap.size]).getD pbs.length 0 = w.heap.size by simp [List.getD]]
        have hb := BlkAt.new (w.setCell ⟨tb, pbs.length, none⟩ (.pointer (some ⟨w.heap.size, 0, none⟩))) (playerV pbs.length) 184
        rw [hs] at hb
        exact hb
    ub := h.ub
    state := (h.state.own fun k ho hl => ⟨ho.1, ho.2.1, ho.2.2.1, ho.2.2.2.1, fun hm => by
      rcases List.mem_append.1 hm with h1 | h1
      · exact ho.2.2.2.2 h1
      · simp at h1
        omega⟩).on fun k ho hl => hblk k ho.2.2.1 hl
    lm := h.lm
    lt := h.lt
    lh := h.lh
    lp := fun k hk => by
      rcases List.mem_append.1 hk with h1 | h1
      · exact h.lp k h1
      · simp at h1
        subst h1
        exact ⟨hlo, by omega, by omega, by omega⟩
    d1 := h.d1
    d2 := h.d2
    d3 := h.d3 }
set_option maxHeartbeats 4000000 in
set_option maxRecDepth 20000 in
theorem mjoin_any (h : MParts w 0 lo mb sd P sb hb cap tb gv uv bs g pbs) (hP : P ≤ 4) (hn : pbs.length < P) (hlo : lo ≤ w.heap.size) :
    Calls Tryz.prog 69 #[.pointer (some ⟨mb, 0, none⟩), .string ⟨#[(97 + pbs.length).toUInt8]⟩] w fun e w' => e = .returned (.tuple #[.int .i64 pbs.length, .int .i64 0]) ∧ ∃ b, MParts w' 0 lo mb sd P sb hb cap tb gv uv bs g (pbs ++ [b]) ∧ Below lo w w' ∧ w.heap.size ≤ w'.heap.size := by
  have h0 : w.cell? ⟨mb, 0, none⟩ = some (.int .i32 0) := h.cells.cell rfl
  have f0 : w.frozen? ⟨mb, 0, none⟩ = false := h.cells.free 0
  have h1 := h.locks 1
  have HL := (show Hid _ from lock_free muLib ⟨mb, 0, none⟩ w h0 f0)
  have HN := (show Hid _ from named_any h1 hP)
  have HS := (show Hid _ from freeSeat_any h1 hP)
  have HFn : Hid (freeF pbs.length P = pbs.length) := by unfold Hid freeF; rw [if_pos hn]
  rw [HFn.out] at HS
  have HH := (show Hid _ from h1)
  have hne := h.d1
  have HB1 : Hid (Below lo w (w.setCell ⟨mb, 0, none⟩ (.int .i32 1))) := Below.setCell (Below.refl _ _) h.lm _
  have hs1 : (w.setCell ⟨mb, 0, none⟩ (.int .i32 1)).heap.size = w.heap.size := by simp
  clear h h0 f0
  generalize hw1 : w.setCell ⟨mb, 0, none⟩ (.int .i32 1) = w1 at *
  clear hw1
  have h4 : w1.cell? ⟨mb, 4, none⟩ = some (.slice (some ⟨tb, 0, none⟩) P P) := h1.cells.cell rfl
  have htb := h1.seats.lt
  have hmb := h1.cells.lt
  have ht : w1.cell? ⟨tb, pbs.length, none⟩ = some (.pointer none) := h1.free (Nat.le_refl _) hn
  have ft : w1.frozen? ⟨tb, pbs.length, none⟩ = false := h1.seats.free _
  have HC : Hid (∀ W c, Below w1.heap.size w1 W → Calls Tryz.prog 117 #[.string ⟨#[c]⟩] W fun e w2 => e = .returned (.string ⟨#[c]⟩) ∧ (w2.cell? ⟨mb, 4, none⟩ = some (.slice (some ⟨tb, 0, none⟩) P P) ∧ w2.cell? ⟨tb, pbs.length, none⟩ = some (.pointer none) ∧ w2.frozen? ⟨tb, pbs.length, none⟩ = false ∧ tb < w2.heap.size ∧ mb < w2.heap.size) ∧ Hid (Below w1.heap.size w1 w2)) := fun W c hW => (clone1_any c W).mono fun e w2 ⟨he, hb2⟩ => by
    have hb12 := hW.trans (hb2.mono hW.size)
    have hz := hb12.size
    exact ⟨he, ⟨(hb12.cell hmb).trans h4, (hb12.cell htb).trans ht, (hb12.frozen htb).trans ft, by omega, by omega⟩, hb12⟩
  clear h1
  generalize hnn : pbs.length = n at *
  generalize hcc : (97 + n).toUInt8 = c at *
  have Hcc := (show Hid _ from hcc)
  clear hcc
  have Hr : Hid (Below w1.heap.size w1 w1) := Below.refl _ _
  go_enter_defers Tryz.func69, Tryz.ntmps69
  go_wp2_with (first | (go_at_call 89; refine Calls.mono HL.out ?_; rintro e w' ⟨rfl, rfl⟩) | (go_at_call 96; refine Calls.mono HN.out ?_; rintro e w' ⟨rfl, rfl⟩) | (go_at_call 116; refine Calls.mono HS.out ?_; rintro e w' ⟨rfl, rfl⟩))
  refine wp_region_noPanic ?_
  go_region_with (go_at_call 117; refine Calls.mono (HC.out _ _ (by first | exact (Below.refl _ _).drew | exact Below.refl _ _)) ?_; rintro e w2 ⟨rfl, ⟨k1, k2, k3, k4, k5⟩, hb2⟩)
  all_goals
    refine NoPanic.normal ?_
    have Hb2 := (show Hid _ from hb2)
    go_wp2
    subst hnn
    have hsz := Hb2.out.size
    have h2 := (HH.out.below Hb2.out).joined hn (by omega)
    have e3 : (playerV pbs.length).toArray = #[.int .i64 pbs.length, .string ⟨#[c]⟩, .int .i64 0, .slice none 0 0, .bool false, .bool false] := by unfold playerV; rw [Hcc.out]
    rw [e3] at h2
    refine leaves_cons (f := 90) (args := #[.pointer (some ⟨mb, 0, none⟩)]) (by simp) (by simp [go_sem]) ?_
    refine (unlock_deferred muLib ⟨mb, 0, none⟩ .returning _ (h2.cells.cell rfl) (h2.cells.free 0)).mono ?_
    rintro e u' w'' ⟨rfl, rfl, rfl⟩
    refine ⟨_, results_tmp2 rfl _ _ _, rfl, _, h2.locks 0, ?_, ?_⟩
    · refine Below.setCell (Below.alloc (Below.setCell (HB1.out.trans (Hb2.out.mono (by omega))) HH.out.lt _) (by simp; omega) _) HH.out.lm _
    · simp; omega
end
end Go.Proofs.YtdianedehhecoaaGreatDoor

/- State, Hash, Look of a match of which nothing is done yet. -/
namespace Go.Proofs.YtdianedehhecoaaGreatDoor
open Go.RowKit Go.MuLone
set_option linter.unusedVariables false
set_option linter.unusedSimpArgs false

section
variable {w : World} {lk : Int} {lo mb : Nat} {sd : Int} {P sb hb cap tb : Nat} {gv uv : Value} {bs : List Nat} {g : Nat} {pbs : List Nat}
set_option maxHeartbeats 4000000 in
set_option maxRecDepth 20000 in
theorem mstate_any (h : MParts w 0 lo mb sd P sb hb cap tb gv uv bs g pbs) (p2 : 2 ≤ P) (p4 : P ≤ 4) (hlo : lo ≤ w.heap.size) :
    Calls Tryz.prog 45 #[.pointer (some ⟨mb, 0, none⟩)] w fun e w' => e = .returned (.string (bytesF (startTo sd P))) ∧ MParts w' 0 lo mb sd P sb hb cap tb gv uv bs g pbs ∧ Below lo w w' := by
  have h0 : w.cell? ⟨mb, 0, none⟩ = some (.int .i32 0) := h.cells.cell rfl
  have f0 : w.frozen? ⟨mb, 0, none⟩ = false := h.cells.free 0
  have h1 := h.locks 1
  have HL := (show Hid _ from lock_free muLib ⟨mb, 0, none⟩ w h0 f0)
  have hI := startTo_inv sd P p2 p4
  have HB := (show Hid _ from PBytes_any h1.state h1.ub hI.toP)
  rw [bytes_rel (startTo sd P) hI.ore] at HB
  have HH := (show Hid _ from h1)
  have HB1 : Hid (Below lo w (w.setCell ⟨mb, 0, none⟩ (.int .i32 1))) := Below.setCell (Below.refl _ _) h.lm _
  have hs1 : (w.setCell ⟨mb, 0, none⟩ (.int .i32 1)).heap.size = w.heap.size := by simp
  have h2 : (w.setCell ⟨mb, 0, none⟩ (.int .i32 1)).cell? ⟨mb, 2, none⟩ = some (.pointer (some ⟨sb, 0, none⟩)) := h1.cells.cell rfl
  clear h h0 f0 h1 hI
  generalize hw1 : w.setCell ⟨mb, 0, none⟩ (.int .i32 1) = w1 at *
  clear hw1
  generalize bytesF (startTo sd P) = s at *
  go_enter_defers Tryz.func45, Tryz.ntmps45
  go_wp2_with (first | (go_at_call 89; refine Calls.mono HL.out ?_; rintro e w' ⟨rfl, rfl⟩) | (go_at_call 41; refine Calls.mono HB.out ?_; rintro e w2 ⟨rfl, hb2⟩))
  have h3 := HH.out.below hb2
  refine leaves_cons (f := 90) (args := #[.pointer (some ⟨mb, 0, none⟩)]) (by simp) (by simp [go_sem]) ?_
  refine (unlock_deferred muLib ⟨mb, 0, none⟩ .returning _ (h3.cells.cell rfl) (h3.cells.free 0)).mono ?_
  rintro e u' w'' ⟨rfl, rfl, rfl⟩
  exact ⟨_, results_tmp rfl _ _ _, rfl, h3.locks 0, Below.setCell (HB1.out.trans (hb2.mono (by omega))) HH.out.lm _⟩
set_option maxHeartbeats 4000000 in
set_option maxRecDepth 20000 in
theorem mhash_any (h : MParts w 0 lo mb sd P sb hb cap tb gv uv bs g pbs) (hlo : lo ≤ w.heap.size) :
    Calls Tryz.prog 44 #[.pointer (some ⟨mb, 0, none⟩), .int .i64 0] w fun e w' => e = .returned (.tuple #[.string (hash16 (bytesF (startTo sd P))), .int .i64 0]) ∧ MParts w' 0 lo mb sd P sb hb cap tb gv uv bs g pbs ∧ Below lo w w' := by
  have h0 : w.cell? ⟨mb, 0, none⟩ = some (.int .i32 0) := h.cells.cell rfl
  have f0 : w.frozen? ⟨mb, 0, none⟩ = false := h.cells.free 0
  have h1 := h.locks 1
  have HL := (show Hid _ from lock_free muLib ⟨mb, 0, none⟩ w h0 f0)
  have HH := (show Hid _ from h1)
  have HB1 : Hid (Below lo w (w.setCell ⟨mb, 0, none⟩ (.int .i32 1))) := Below.setCell (Below.refl _ _) h.lm _
  have hs1 : (w.setCell ⟨mb, 0, none⟩ (.int .i32 1)).heap.size = w.heap.size := by simp
  have h3 : (w.setCell ⟨mb, 0, none⟩ (.int .i32 1)).cell? ⟨mb, 3, none⟩ = some (.slice (some ⟨hb, 0, none⟩) 1 cap) := h1.cells.cell rfl
  have h4 := h1.hash
  clear h h0 f0 h1
  generalize hw1 : w.setCell ⟨mb, 0, none⟩ (.int .i32 1) = w1 at *
  clear hw1
  generalize hash16 (bytesF (startTo sd P)) = s at h4 ⊢
  go_enter_defers Tryz.func44, Tryz.ntmps44
  go_wp2_with (first | (go_at_call 89; refine Calls.mono HL.out ?_; rintro e w' ⟨rfl, rfl⟩))
  have h3 := HH.out
  refine leaves_cons (f := 90) (args := #[.pointer (some ⟨mb, 0, none⟩)]) (by simp) (by simp [go_sem]) ?_
  refine (unlock_deferred muLib ⟨mb, 0, none⟩ .returning _ (h3.cells.cell rfl) (h3.cells.free 0)).mono ?_
  rintro e u' w'' ⟨rfl, rfl, rfl⟩
  exact ⟨_, results_tmp2 rfl _ _ _, rfl, h3.locks 0, Below.setCell HB1.out HH.out.lm _⟩
theorem begun_over (seed : Int) (P : Nat) (p2 : 2 ≤ P) (p4 : P ≤ 4) : overB (startTo seed P) = false := by
  have hc : P = 2 ∨ P = 3 ∨ P = 4 := by omega
  rcases hc with rfl | rfl | rfl <;> rfl
theorem begun_turn (seed : Int) (P : Nat) : (toPS (startTo seed P)).turn = 0 := (startTo_ore seed P).2
theorem mover_any (h : MParts w lk lo mb sd P sb hb cap tb gv uv bs g pbs) (p2 : 2 ≤ P) (p4 : P ≤ 4) :
    Calls Tryz.prog 39 #[.pointer (some ⟨sb, 0, none⟩)] w fun e w' => e = .returned (.bool false) ∧ Below w.heap.size w w' := by
  have hI := startTo_inv sd P p2 p4
  have H := POver_any h.state h.ub hI.toP.n (toPS_own hI)
  have hovr : overP (toPS (startTo sd P)).units = overB (startTo sd P) := over_rel hI
  rw [hovr, begun_over sd P p2 p4] at H
  exact H
set_option maxHeartbeats 4000000 in
set_option maxRecDepth 20000 in
theorem phase_any (h : MParts w lk lo mb sd P sb hb cap tb gv uv bs g pbs) (p2 : 2 ≤ P) (p4 : P ≤ 4) (hn : pbs.length = P) :
    Calls Tryz.prog 91 #[.pointer (some ⟨mb, 0, none⟩)] w fun e w' => e = .returned (.int .i64 2) ∧ Below w.heap.size w w' := by
  have HS := (show Hid _ from freeSeat_any h p4)
  rw [show freeF pbs.length P = -1 by unfold freeF; rw [if_neg (by omega)]] at HS
  have HO := (show Hid _ from mover_any h p2 p4)
  have h2 : w.cell? ⟨mb, 2, none⟩ = some (.pointer (some ⟨sb, 0, none⟩)) := h.cells.cell rfl
  clear h
  go_enter Tryz.func91, Tryz.ntmps91
  go_wp2_with (first | (go_at_call 116; refine Calls.mono HS.out ?_; rintro e w' ⟨rfl, rfl⟩) | (go_at_call 39; refine Calls.mono HO.out ?_; rintro e w2 ⟨rfl, hb2⟩))
  go_ret
  exact ⟨rfl, hb2⟩
set_option maxHeartbeats 4000000 in
set_option maxRecDepth 20000 in
theorem turn_any (h : MParts w lk lo mb sd P sb hb cap tb gv uv bs g pbs) :
    Calls Tryz.prog 92 #[.pointer (some ⟨sb, 0, none⟩)] w fun e w' => e = .returned (.int .i64 0) ∧ w' = w := by
  have h0 : w.cell? ⟨sb, 0, none⟩ = some (.int .i64 (toPS (startTo sd P)).turn) := h.state.st.cell rfl
  rw [begun_turn] at h0
  clear h
  go_enter Tryz.func92, Tryz.ntmps92
  go_wp2
  go_ret
  exact ⟨rfl, rfl⟩
set_option maxHeartbeats 4000000 in
set_option maxRecDepth 20000 in
theorem winner_any (h : MParts w lk lo mb sd P sb hb cap tb gv uv bs g pbs) (p2 : 2 ≤ P) (p4 : P ≤ 4) :
    Calls Tryz.prog 93 #[.pointer (some ⟨sb, 0, none⟩)] w fun e w' => e = .returned (.int .i64 (-1)) ∧ Below w.heap.size w w' := by
  have HO := (show Hid _ from mover_any h p2 p4)
  clear h
  go_enter Tryz.func93, Tryz.ntmps93
  go_wp2_with (first | (go_at_call 39; refine Calls.mono HO.out ?_; rintro e w2 ⟨rfl, hb2⟩))
  go_ret
  exact ⟨rfl, hb2⟩
end
end Go.Proofs.YtdianedehhecoaaGreatDoor
