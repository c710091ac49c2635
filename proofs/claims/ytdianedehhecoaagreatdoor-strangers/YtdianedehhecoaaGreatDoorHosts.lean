/- The host's calls of its first match. -/
import Derived.Test.YtdianedehhecoaaGreatDoorHostLeaf
import Derived.Test.YtdianedehhecoaaGreatDoorMatchAts
namespace Go.Proofs.YtdianedehhecoaaGreatDoor
open Go.RowKit
set_option linter.unusedVariables false
set_option linter.unusedSimpArgs false

/-- a host at hbk with one match, at mb -/
structure HAt (w : World) (hbk rb mb : Nat) : Prop where
  host : BlkAt w hbk (hostV 1 rb) 120
  rooms : BlkAt w rb (.pointer (some ⟨mb, 0, none⟩) :: List.replicate 7 (.pointer none)) 125
/-- a host whose first room is the match at mb -/
structure HRoom (w : World) (hbk rb mb : Nat) : Prop where
  host : w.cell? ⟨hbk, 1, none⟩ = some (.slice (some ⟨rb, 0, none⟩) 8 8)
  room : w.cell? ⟨rb, 0, none⟩ = some (.pointer (some ⟨mb, 0, none⟩))
theorem HAt.toRoom {w : World} {hbk rb mb : Nat} (h : HAt w hbk rb mb) : HRoom w hbk rb mb := ⟨h.host.cell rfl, h.rooms.cell rfl⟩
theorem HRoom.on {w w' : World} {hbk rb mb : Nat} (h : HRoom w hbk rb mb) (h1 : w'.heap[hbk]? = w.heap[hbk]?) (h2 : w'.heap[rb]? = w.heap[rb]?) : HRoom w' hbk rb mb :=
  ⟨(World.cell?_of_block (w := w) h1).trans h.host, (World.cell?_of_block (w := w) h2).trans h.room⟩
theorem HAt.on {w w' : World} {hbk rb mb : Nat} (h : HAt w hbk rb mb) {lo : Nat} (hb : Below lo w w') (h1 : hbk < lo) (h2 : rb < lo) : HAt w' hbk rb mb :=
  ⟨h.host.same (hb.block _ h1), h.rooms.same (hb.block _ h2)⟩
/-- a match may be said to lie above a lower line -/
theorem MParts.lower {w : World} {lk : Int} {lo lo' mb : Nat} {sd : Int} {P sb hb cap tb : Nat} {gv uv : Value} {bs : List Nat} {g : Nat} {pbs : List Nat} (h : MParts w lk lo mb sd P sb hb cap tb gv uv bs g pbs) (hl : lo' ≤ lo) : MParts w lk lo' mb sd P sb hb cap tb gv uv bs g pbs :=
  { h with
    state := h.state.own fun k ho _ => ⟨by have := ho.1; omega, ho.2⟩
    lm := by have := h.lm; omega
    lt := by have := h.lt; omega
    lh := by have := h.lh; omega
    lp := fun k hk => ⟨by have := (h.lp k hk).1; omega, (h.lp k hk).2⟩ }
/-- a host with one match, of which nothing is done -/
def HAtM (w : World) (lo hbk rb : Nat) (sd : Int) (P n : Nat) : Prop :=
  ∃ lo' mb sb hb cap tb gv uv bs g pbs, pbs.length = n ∧ lo ≤ lo' ∧ hbk < lo' ∧ rb < lo' ∧ lo' ≤ w.heap.size ∧ MParts w 0 lo' mb sd P sb hb cap tb gv uv bs g pbs ∧ HAt w hbk rb mb
section
variable {w : World} {hbk rb : Nat} {lo mb : Nat} {sd : Int} {P sb hb cap tb : Nat} {gv uv : Value} {bs : List Nat} {g : Nat} {pbs : List Nat}
set_option maxHeartbeats 2000000 in
set_option maxRecDepth 20000 in
theorem find_any {xs : List Value} (hh : HRoom w hbk rb mb) (hm : BlkAt w mb xs 136) (hl : xs.length = 7) :
    Calls Pz.prog 43 #[.pointer (some ⟨hbk, 0, none⟩), .int .i64 0] w fun e w' => e = .returned (.pointer (some ⟨mb, 0, none⟩)) ∧ w' = w := by
  have h1 : w.cell? ⟨hbk, 1, none⟩ = some (.slice (some ⟨rb, 0, none⟩) 8 8) := hh.host
  have h2 : w.cell? ⟨rb, 0, none⟩ = some (.pointer (some ⟨mb, 0, none⟩)) := hh.room
  have HL := (show Hid _ from pload_any rb 0 mb xs w h2 hm hl)
  clear hh hm hl h2
  go_enter Pz.func43, Tryz.ntmps43
  go_wp2_with (first | (go_at_call 88; refine Calls.mono HL.out ?_; rintro e w' ⟨rfl, rfl⟩))
  go_ret
  exact ⟨rfl, rfl⟩
set_option maxHeartbeats 2000000 in
set_option maxRecDepth 20000 in
theorem hjoin_any (hh : HAt w hbk rb mb) (h : MParts w 0 lo mb sd P sb hb cap tb gv uv bs g pbs) (hP : P ≤ 4) (hn : pbs.length < P) (hlo : lo ≤ w.heap.size) :
    Calls Pz.prog 33 #[.pointer (some ⟨hbk, 0, none⟩), .int .i64 0, .string ⟨#[(97 + pbs.length).toUInt8]⟩] w fun e w' => e = .returned (.tuple #[.int .i64 pbs.length, .int .i64 0]) ∧ ∃ b, MParts w' 0 lo mb sd P sb hb cap tb gv uv bs g (pbs ++ [b]) ∧ Below lo w w' ∧ w.heap.size ≤ w'.heap.size := by
  have HF := (show Hid _ from find_any hh.toRoom h.cells rfl)
  have HJ := (show Hid _ from mjoin_any h hP hn hlo)
  clear hh h
  generalize (⟨#[(97 + pbs.length).toUInt8]⟩ : ByteArray) = s at *
  go_enter Pz.func33, Tryz.ntmps33
  go_wp2_with (first | (go_at_call 43; refine Calls.mono HF.out ?_; rintro e w' ⟨rfl, rfl⟩) | (go_at_call 69; refine Calls.mono HJ.out ?_; rintro e w' ⟨rfl, hq⟩))
  go_ret2
  exact ⟨rfl, hq⟩
set_option maxHeartbeats 2000000 in
set_option maxRecDepth 20000 in
theorem hstate_any (hh : HAt w hbk rb mb) (h : MParts w 0 lo mb sd P sb hb cap tb gv uv bs g pbs) (p2 : 2 ≤ P) (p4 : P ≤ 4) (hlo : lo ≤ w.heap.size) :
    Calls Pz.prog 19 #[.pointer (some ⟨hbk, 0, none⟩), .int .i64 0] w fun e w' => e = .returned (.tuple #[.string (bytesF (startTo sd P)), .int .i64 0]) ∧ MParts w' 0 lo mb sd P sb hb cap tb gv uv bs g pbs ∧ Below lo w w' := by
  have HF := (show Hid _ from find_any hh.toRoom h.cells rfl)
  have HJ := (show Hid _ from mstate_any h p2 p4 hlo)
  clear hh h
  generalize bytesF (startTo sd P) = s at *
  go_enter Pz.func19, Tryz.ntmps19
  go_wp2_with (first | (go_at_call 43; refine Calls.mono HF.out ?_; rintro e w' ⟨rfl, rfl⟩) | (go_at_call 45; refine Calls.mono HJ.out ?_; rintro e w' ⟨rfl, hq⟩))
  go_ret2
  exact ⟨rfl, hq⟩
set_option maxHeartbeats 2000000 in
set_option maxRecDepth 20000 in
theorem hhash_any (hh : HAt w hbk rb mb) (h : MParts w 0 lo mb sd P sb hb cap tb gv uv bs g pbs) (hlo : lo ≤ w.heap.size) :
    Calls Pz.prog 18 #[.pointer (some ⟨hbk, 0, none⟩), .int .i64 0, .int .i64 0] w fun e w' => e = .returned (.tuple #[.string (hash16 (bytesF (startTo sd P))), .int .i64 0]) ∧ MParts w' 0 lo mb sd P sb hb cap tb gv uv bs g pbs ∧ Below lo w w' := by
  have HF := (show Hid _ from find_any hh.toRoom h.cells rfl)
  have HJ := (show Hid _ from mhash_any h hlo)
  clear hh h
  have Hs : Hid (hash16 (bytesF (startTo sd P)) = hash16 (bytesF (startTo sd P))) := rfl
  go_enter Pz.func18, Tryz.ntmps18
  go_wp2_with (first | (go_at_call 43; refine Calls.mono HF.out ?_; rintro e w' ⟨rfl, rfl⟩) | (go_at_call 44; refine Calls.mono HJ.out ?_; rintro e w' ⟨rfl, hq⟩))
  go_ret2
  exact ⟨rfl, hq⟩
end
end Go.Proofs.YtdianedehhecoaaGreatDoor

/- Host.choose of one number: the first match, alone. -/
namespace Go.Proofs.YtdianedehhecoaaGreatDoor
open Go.RowKit
set_option linter.unusedVariables false
set_option linter.unusedSimpArgs false

set_option maxHeartbeats 1000000 in
set_option maxRecDepth 20000 in
theorem indexM_nil (v : Value) (w : World) : Calls Pz.prog 173 #[.slice none 0 0, v] w fun e w' => e = .returned (.int .i64 (-1)) ∧ w' = w := by
  go_enter Pz.func173, Tryz.ntmps173
  go_wp2
  go_loop [8] (fun i => i = .int .i64 0) (fun i => 0)
  case atStart => rfl
  case round =>
    subst hrel
    go_wp2
    go_ret
    exact ⟨rfl, rfl⟩
set_option maxHeartbeats 1000000 in
set_option maxRecDepth 20000 in
theorem containsM_nil (v : Value) (w : World) : Calls Pz.prog 119 #[.slice none 0 0, v] w fun e w' => e = .returned (.bool false) ∧ w' = w := by
  have HI := (show Hid _ from indexM_nil v w)
  go_enter Pz.func119, Tryz.ntmps119
  go_wp2_with (go_at_call 173; refine Calls.mono HI.out ?_; rintro e w' ⟨rfl, rfl⟩)
  go_ret
  exact ⟨rfl, rfl⟩
/-- what choose leaves -/
def Chosen (w : World) (mb : Nat) (ch : Value) (w' : World) : Prop := ∃ cb cap, ch = .slice (some ⟨cb, 0, none⟩) 1 cap ∧ w'.cell? ⟨cb, 0, none⟩ = some (.pointer (some ⟨mb, 0, none⟩)) ∧ w.heap.size ≤ cb ∧ cb < w'.heap.size ∧ w'.heap.size ≤ w.heap.size + 2 ∧ w'.os = w.os ∧ w'.output = w.output ∧ ∀ k : Nat, k < w.heap.size → w'.heap[k]? = w.heap[k]?
theorem chosen_of (w : World) (mb cap : Nat) (zs : Array Value) : Chosen w mb (.slice (some ⟨w.heap.size + 1, 0, none⟩) 1 cap) ((w.alloc (.cells #[.pointer (some ⟨mb, 0, none⟩)] 85)).alloc (.cells (#[.pointer (some ⟨mb, 0, none⟩)] ++ zs) 85)).drew := by
  have al : ∀ (u : World) (o : Obj), (u.alloc o).heap = u.heap.push o := fun _ _ => rfl
  have hs : ((w.alloc (.cells #[.pointer (some ⟨mb, 0, none⟩)] 85)).alloc (.cells (#[.pointer (some ⟨mb, 0, none⟩)] ++ zs) 85)).drew.heap = (w.heap.push (.cells #[.pointer (some ⟨mb, 0, none⟩)] 85)).push (.cells (#[.pointer (some ⟨mb, 0, none⟩)] ++ zs) 85) := rfl
  have hb : ((w.alloc (.cells #[.pointer (some ⟨mb, 0, none⟩)] 85)).alloc (.cells (#[.pointer (some ⟨mb, 0, none⟩)] ++ zs) 85)).drew.heap[w.heap.size + 1]? = some (.cells (#[.pointer (some ⟨mb, 0, none⟩)] ++ zs) 85) := by
    rw [hs, Array.getElem?_push, if_pos (by rw [Array.size_push])]
  refine ⟨_, cap, rfl, ?_, by omega, by rw [hs, Array.size_push, Array.size_push]; omega, by rw [hs, Array.size_push, Array.size_push]; omega, rfl, rfl, fun k hk => ?_⟩
  · unfold World.cell?
    rw [hb]
    simp only [Option.isSome_none, Bool.false_eq_true, if_false]
    rw [Array.getElem?_append_left (by simp)]
    rfl
  · rw [hs, Array.getElem?_push, if_neg (by rw [Array.size_push]; omega), Array.getElem?_push, if_neg (by omega)]
section
variable {w : World} {hbk rb mb nb ncap : Nat}
set_option maxHeartbeats 2000000 in
set_option maxRecDepth 20000 in
theorem choose_one {xs : List Value} (hh : HRoom w hbk rb mb) (hm : BlkAt w mb xs 136) (hl : xs.length = 7) (hn : w.cell? ⟨nb, 0, none⟩ = some (.int .i64 0)) :
    Calls Pz.prog 70 #[.pointer (some ⟨hbk, 0, none⟩), .slice (some ⟨nb, 0, none⟩) 1 ncap] w fun e w' => ∃ ch, e = .returned (.tuple #[ch, .bool true]) ∧ Chosen w mb ch w' := by
  have HF := (show Hid _ from find_any hh hm hl)
  have HC := (show Hid _ from containsM_nil (.pointer (some ⟨mb, 0, none⟩)) w)
  clear hh hm hl
  go_enter Pz.func70, Tryz.ntmps70
  go_wp2_with fail
  go_loopw [6, 17] (fun sv iv wr => (iv = .int .i64 0 ∧ sv = .slice none 0 0 ∧ wr = w) ∨ (iv = .int .i64 1 ∧ Chosen w mb sv wr)) (fun _ iv _ => 1 - (intOf iv).toNat)
  case atStart => exact .inl ⟨rfl, rfl, rfl⟩
  case round =>
    rcases hrel with ⟨rfl, rfl, rfl⟩ | ⟨rfl, hC⟩
    · go_wp2_with (first | (go_at_call 43; refine Calls.mono HF.out ?_; rintro e w' ⟨rfl, rfl⟩) | (go_at_call 119; refine Calls.mono HC.out ?_; rintro e w' ⟨rfl, rfl⟩))
      exact ⟨.inr ⟨rfl, chosen_of _ _ _ _⟩, by simp [intOf]⟩
    · go_wp2_with fail
      go_ret2
      exact ⟨_, rfl, hC⟩
end
end Go.Proofs.YtdianedehhecoaaGreatDoor
