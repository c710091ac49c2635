/- The host's calls of its first match. -/
import Derived.Test.YtdianedehhecoaaGreatDoorHostLeaf
import Derived.Test.YtdianedehhecoaaGreatDoorMatchAts
namespace Go.Proofs.YtdianedehhecoaaGreatDoor
open Go.RowKit
set_option linter.unusedVariables false
set_option linter.unusedSimpArgs false

/-- a host at hbk with one match, at mb -/
structure HAt (w : World) (hbk rb mb : Nat) : Prop where
  host : BlkAt w hbk (hostV 1 rb) 120
  rooms : BlkAt w rb (.pointer (some ⟨mb, 0, none⟩) :: List.replicate 7 (.pointer none)) 125
theorem HAt.on {w w' : World} {hbk rb mb : Nat} (h : HAt w hbk rb mb) {lo : Nat} (hb : Below lo w w') (h1 : hbk < lo) (h2 : rb < lo) : HAt w' hbk rb mb :=
  ⟨h.host.same (hb.block _ h1), h.rooms.same (hb.block _ h2)⟩
/-- a match may be said to lie above a lower line -/
theorem MParts.lower {w : World} {lk : Int} {lo lo' mb : Nat} {sd : Int} {P sb hb cap tb : Nat} {gv uv : Value} {bs : List Nat} {g : Nat} {pbs : List Nat} (h : MParts w lk lo mb sd P sb hb cap tb gv uv bs g pbs) (hl : lo' ≤ lo) : MParts w lk lo' mb sd P sb hb cap tb gv uv bs g pbs :=
  { h with
    state := h.state.own fun k ho _ => ⟨by have := ho.1; omega, ho.2⟩
    lm := by have := h.lm; omega
    lt := by have := h.lt; omega
    lh := by have := h.lh; omega
    lp := fun k hk => ⟨by have := (h.lp k hk).1; omega, (h.lp k hk).2⟩ }
/-- a host with one match, of which nothing is done -/
def HAtM (w : World) (lo hbk rb : Nat) (sd : Int) (P n : Nat) : Prop :=
  ∃ lo' mb sb hb cap tb gv uv bs g pbs, pbs.length = n ∧ lo ≤ lo' ∧ hbk < lo' ∧ rb < lo' ∧ lo' ≤ w.heap.size ∧ MParts w 0 lo' mb sd P sb hb cap tb gv uv bs g pbs ∧ HAt w hbk rb mb
section
variable {w : World} {hbk rb : Nat} {lo mb : Nat} {sd : Int} {P sb hb cap tb : Nat} {gv uv : Value} {bs : List Nat} {g : Nat} {pbs : List Nat}
set_option maxHeartbeats 2000000 in
set_option maxRecDepth 20000 in
theorem find_any {xs : List Value} (hh : HAt w hbk rb mb) (hm : BlkAt w mb xs 136) (hl : xs.length = 7) :
    Calls Tryz.prog 43 #[.pointer (some ⟨hbk, 0, none⟩), .int .i64 0] w fun e w' => e = .returned (.pointer (some ⟨mb, 0, none⟩)) ∧ w' = w := by
  have h1 : w.cell? ⟨hbk, 1, none⟩ = some (.slice (some ⟨rb, 0, none⟩) 8 8) := hh.host.cell rfl
  have h2 : w.cell? ⟨rb, 0, none⟩ = some (.pointer (some ⟨mb, 0, none⟩)) := hh.rooms.cell rfl
  have HL := (show Hid _ from pload_any rb 0 mb xs w h2 hm hl)
  clear hh hm hl h2
  go_enter Tryz.func43, Tryz.ntmps43
  go_wp2_with (first | (go_at_call 88; refine Calls.mono HL.out ?_; rintro e w' ⟨rfl, rfl⟩))
  go_ret
  exact ⟨rfl, rfl⟩
set_option maxHeartbeats 2000000 in
set_option maxRecDepth 20000 in
theorem hjoin_any (hh : HAt w hbk rb mb) (h : MParts w 0 lo mb sd P sb hb cap tb gv uv bs g pbs) (hP : P ≤ 4) (hn : pbs.length < P) (hlo : lo ≤ w.heap.size) :
    Calls Tryz.prog 33 #[.pointer (some ⟨hbk, 0, none⟩), .int .i64 0, .string ⟨#[(97 + pbs.length).toUInt8]⟩] w fun e w' => e = .returned (.tuple #[.int .i64 pbs.length, .int .i64 0]) ∧ ∃ b, MParts w' 0 lo mb sd P sb hb cap tb gv uv bs g (pbs ++ [b]) ∧ Below lo w w' ∧ w.heap.size ≤ w'.heap.size := by
  have HF := (show Hid _ from find_any hh h.cells rfl)
  have HJ := (show Hid _ from mjoin_any h hP hn hlo)
  clear hh h
  generalize (⟨#[(97 + pbs.length).toUInt8]⟩ : ByteArray) = s at *
  go_enter Tryz.func33, Tryz.ntmps33
  go_wp2_with (first | (go_at_call 43; refine Calls.mono HF.out ?_; rintro e w' ⟨rfl, rfl⟩) | (go_at_call 69; refine Calls.mono HJ.out ?_; rintro e w' ⟨rfl, hq⟩))
  go_ret2
  exact ⟨rfl, hq⟩
set_option maxHeartbeats 2000000 in
set_option maxRecDepth 20000 in
theorem hstate_any (hh : HAt w hbk rb mb) (h : MParts w 0 lo mb sd P sb hb cap tb gv uv bs g pbs) (p2 : 2 ≤ P) (p4 : P ≤ 4) (hlo : lo ≤ w.heap.size) :
    Calls Tryz.prog 19 #[.pointer (some ⟨hbk, 0, none⟩), .int .i64 0] w fun e w' => e = .returned (.tuple #[.string (bytesF (startTo sd P)), .int .i64 0]) ∧ MParts w' 0 lo mb sd P sb hb cap tb gv uv bs g pbs ∧ Below lo w w' := by
  have HF := (show Hid _ from find_any hh h.cells rfl)
  have HJ := (show Hid _ from mstate_any h p2 p4 hlo)
  clear hh h
  generalize bytesF (startTo sd P) = s at *
  go_enter Tryz.func19, Tryz.ntmps19
  go_wp2_with (first | (go_at_call 43; refine Calls.mono HF.out ?_; rintro e w' ⟨rfl, rfl⟩) | (go_at_call 45; refine Calls.mono HJ.out ?_; rintro e w' ⟨rfl, hq⟩))
  go_ret2
  exact ⟨rfl, hq⟩
set_option maxHeartbeats 2000000 in
set_option maxRecDepth 20000 in
theorem hhash_any (hh : HAt w hbk rb mb) (h : MParts w 0 lo mb sd P sb hb cap tb gv uv bs g pbs) (hlo : lo ≤ w.heap.size) :
    Calls Tryz.prog 18 #[.pointer (some ⟨hbk, 0, none⟩), .int .i64 0, .int .i64 0] w fun e w' => e = .returned (.tuple #[.string (hash16 (bytesF (startTo sd P))), .int .i64 0]) ∧ MParts w' 0 lo mb sd P sb hb cap tb gv uv bs g pbs ∧ Below lo w w' := by
  have HF := (show Hid _ from find_any hh h.cells rfl)
  have HJ := (show Hid _ from mhash_any h hlo)
  clear hh h
  have Hs : Hid (hash16 (bytesF (startTo sd P)) = hash16 (bytesF (startTo sd P))) := rfl
  go_enter Tryz.func18, Tryz.ntmps18
  go_wp2_with (first | (go_at_call 43; refine Calls.mono HF.out ?_; rintro e w' ⟨rfl, rfl⟩) | (go_at_call 44; refine Calls.mono HJ.out ?_; rintro e w' ⟨rfl, hq⟩))
  go_ret2
  exact ⟨rfl, hq⟩
end
end Go.Proofs.YtdianedehhecoaaGreatDoor
