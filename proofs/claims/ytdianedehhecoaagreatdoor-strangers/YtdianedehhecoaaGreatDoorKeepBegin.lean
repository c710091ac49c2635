/- begin, with no other match ahead: what it leaves for Dues. -/
import Derived.Test.YtdianedehhecoaaGreatDoorMatchNews
import Derived.Test.YtdianedehhecoaaGreatDoorHostLooks
import Derived.Test.YtdianedehhecoaaGreatDoorProgFold
import Derived.Test.YtdianedehhecoaaGreatDoorKeeps
import Derived.Deep.RegionHeld3
namespace Go.Proofs.YtdianedehhecoaaGreatDoor
open Go.RowKit
set_option linter.unusedVariables false
set_option linter.unusedSimpArgs false

theorem start_size2 (sd : Int) : (bytesF (startTo sd 2)).size = 102 := by kernel_rfl
theorem start_size3 (sd : Int) : (bytesF (startTo sd 3)).size = 118 := by kernel_rfl
theorem start_size4 (sd : Int) : (bytesF (startTo sd 4)).size = 134 := by kernel_rfl
theorem start_size (sd : Int) (P : Nat) (p2 : 2 ≤ P) (p4 : P ≤ 4) : (bytesF (startTo sd P)).size = 70 + 16 * P := by
  have hc : P = 2 ∨ P = 3 ∨ P = 4 := by omega
  rcases hc with h | h | h
  · rw [h, start_size2]
  · rw [h, start_size3]
  · rw [h, start_size4]
theorem viewGuard : Pz.prog.eqGuardType Pz.prog.depth 46 = false := by kernel_rfl
set_option maxRecDepth 20000 in
theorem viewEq (a c d e f : Int) (b : Bool) (W : World) : (binOp .eql 46 (.agg #[.int .i64 a, .bool b, .int .i64 c, .int .i64 d, .int .i64 e, .int .i64 f]) (.agg #[.int .i64 a, .bool b, .int .i64 c, .int .i64 d, .int .i64 e, .int .i64 f])).run Pz.prog W = .ok (.bool true) W := by
  have h1 : Pz.prog.underlying 46 = some (.struct (Pz.prog.fieldsOf 46)) := by kernel_rfl
  have h2 : Pz.prog.stoodInHeld 46 = false := by kernel_rfl
  obtain ⟨f1, f2, f3, f4, f5, f6, hf, t1, t2, t3, t4, t5, t6, o1, o2, o3, o4, o5, o6, m1, m2, m3, m4, m5, m6⟩ : ∃ f1 f2 f3 f4 f5 f6, (Pz.prog.fieldsOf 46).toList = [f1, f2, f3, f4, f5, f6] ∧ f1.type = 3 ∧ f2.type = 4 ∧ f3.type = 3 ∧ f4.type = 3 ∧ f5.type = 3 ∧ f6.type = 3 ∧ f1.offset = 0 ∧ f2.offset = 1 ∧ f3.offset = 2 ∧ f4.offset = 3 ∧ f5.offset = 4 ∧ f6.offset = 5 ∧ f1.name ≠ "_" ∧ f2.name ≠ "_" ∧ f3.name ≠ "_" ∧ f4.name ≠ "_" ∧ f5.name ≠ "_" ∧ f6.name ≠ "_" :=
    ⟨(Pz.prog.fieldsOf 46).toList[0]!, (Pz.prog.fieldsOf 46).toList[1]!, (Pz.prog.fieldsOf 46).toList[2]!, (Pz.prog.fieldsOf 46).toList[3]!, (Pz.prog.fieldsOf 46).toList[4]!, (Pz.prog.fieldsOf 46).toList[5]!, by kernel_rfl, by kernel_rfl, by kernel_rfl, by kernel_rfl, by kernel_rfl, by kernel_rfl, by kernel_rfl, by kernel_rfl, by kernel_rfl, by kernel_rfl, by kernel_rfl, by kernel_rfl, by kernel_rfl, by decide +kernel, by decide +kernel, by decide +kernel, by decide +kernel, by decide +kernel, by decide +kernel⟩
  rw [run_eql_struct, run_equalIn_struct W 9999 _ _ _ h1 h2, hf]
  simp [Op.eqFields, m1, m2, m3, m4, m5, m6, t1, t2, t3, t4, t5, t6, o1, o2, o3, o4, o5, o6, go_sem]
/-- a host with a match that n have joined, and a play of it -/
def BAt (W : World) (hbk rb pb : Nat) (sd : Int) (P n : Nat) : Prop :=
  ∃ lo' mb sb hb cap tb gv uv bs g pbs, pbs.length = n ∧ hbk < lo' ∧ rb < lo' ∧ pb < lo' ∧ lo' ≤ W.heap.size ∧ MParts W 0 lo' mb sd P sb hb cap tb gv uv bs g pbs ∧ HAt W hbk rb mb ∧ BlkAt W pb (playV0 hbk sd P) 37
/-- a host with a match that goes and is watched, and a play of it -/
def POn (W : World) (hbk rb pb : Nat) (sd : Int) (P n : Nat) : Prop :=
  ∃ lo' mb sb hb cap tb gv uv bs g pbs wl wt wc a b, pbs.length = n ∧ hbk < lo' ∧ rb < lo' ∧ pb < lo' ∧ MOn W lo' mb sd P sb hb cap tb gv uv bs g pbs wl wt wc ∧ HRoom W hbk rb mb ∧ BlkAt W pb (((playV0 hbk sd P).set 8 a).set 9 b) 37
theorem POn.like {W W' : World} {hbk rb pb : Nat} {sd : Int} {P n : Nat} (h : POn W hbk rb pb sd P n) (e : W'.heap = W.heap) : POn W' hbk rb pb sd P n := by
  obtain ⟨lo', mb, sb, hb, cap, tb, gv, uv, bs, g, pbs, wl, wt, wc, a, b, h1, h2, h3, h4, h5, h6, h7⟩ := h
  exact ⟨lo', mb, sb, hb, cap, tb, gv, uv, bs, g, pbs, wl, wt, wc, a, b, h1, h2, h3, h4, h5.on (fun k _ _ => by rw [e]), h6.on (by rw [e]) (by rw [e]), h7.same (by rw [e])⟩
/-- what begin leaves -/
def Begun2 (w : World) (sd : Int) (P : Nat) (e : Ending) (w' : World) : Prop :=
  ∃ pb hbk rb, e = .returned (.tuple #[.pointer (some ⟨pb, 0, none⟩), .bool true]) ∧ w.heap.size ≤ hbk ∧ w.heap.size ≤ rb ∧ w.heap.size ≤ pb ∧ hbk ≠ rb ∧ pb ≠ hbk ∧ pb ≠ rb ∧ POn w' hbk rb pb sd P P ∧ Below w.heap.size w w'
theorem BAt.below {W W' : World} {hbk rb pb : Nat} {sd : Int} {P n : Nat} (h : BAt W hbk rb pb sd P n) (hb : Below W.heap.size W W') : BAt W' hbk rb pb sd P n := by
  obtain ⟨lo', mb, sb, hb', cap, tb, gv, uv, bs, g, pbs, h1, h2, h3, h4, h5, h6, h7, h8⟩ := h
  exact ⟨lo', mb, sb, hb', cap, tb, gv, uv, bs, g, pbs, h1, h2, h3, h4, Nat.le_trans h5 hb.size, h6.below hb, h7.on hb h7.host.lt h7.rooms.lt, h8.same (hb.block _ h8.lt)⟩
theorem BAt.drew {W : World} {hbk rb pb : Nat} {sd : Int} {P n : Nat} (h : BAt W hbk rb pb sd P n) : BAt W.drew hbk rb pb sd P n := h.below (Below.refl _ _).drew
theorem BAt.play {W : World} {hbk rb pb : Nat} {sd : Int} {P n : Nat} (h : BAt W hbk rb pb sd P n) : BlkAt W pb (playV0 hbk sd P) 37 := by
  obtain ⟨lo', mb, sb, hb', cap, tb, gv, uv, bs, g, pbs, h1, h2, h3, h4, h5, h6, h7, h8⟩ := h
  exact h8
section
variable {W w : World} {N hbk rb pb : Nat} {sd : Int} {P n : Nat}
theorem bjoin_any (h : BAt W hbk rb pb sd P n) (p4 : P ≤ 4) (hn : n < P) (hN : N ≤ hbk) (hB : Below N w W) :
    Calls Pz.prog 33 #[.pointer (some ⟨hbk, 0, none⟩), .int .i64 0, .string ⟨#[(97 + n).toUInt8]⟩] W fun e w' => e = .returned (.tuple #[.int .i64 n, .int .i64 0]) ∧ BAt w' hbk rb pb sd P (n + 1) ∧ Below N w w' := by
  obtain ⟨lo', mb, sb, hb', cap, tb, gv, uv, bs, g, pbs, rfl, h2, h3, h4, h5, h6, h7, h8⟩ := h
  refine (hjoin_any h7 h6 p4 hn h5).mono fun e w' ⟨he, b, hM, hb, hz⟩ => ⟨he, ⟨lo', mb, sb, hb', cap, tb, gv, uv, bs, g, pbs ++ [b], by simp, h2, h3, h4, Nat.le_trans h5 hz, hM, h7.on hb h2 h3, h8.same (hb.block _ h4)⟩, hB.trans (hb.mono (by omega))⟩
theorem bstate_any (h : BAt W hbk rb pb sd P n) (p2 : 2 ≤ P) (p4 : P ≤ 4) (hN : N ≤ hbk) (hB : Below N w W) :
    Calls Pz.prog 19 #[.pointer (some ⟨hbk, 0, none⟩), .int .i64 0] W fun e w' => e = .returned (.tuple #[.string (bytesF (startTo sd P)), .int .i64 0]) ∧ BAt w' hbk rb pb sd P n ∧ Below N w w' := by
  obtain ⟨lo', mb, sb, hb', cap, tb, gv, uv, bs, g, pbs, rfl, h2, h3, h4, h5, h6, h7, h8⟩ := h
  exact (hstate_any h7 h6 p2 p4 h5).mono fun e w' ⟨he, hM, hb⟩ => ⟨he, ⟨lo', mb, sb, hb', cap, tb, gv, uv, bs, g, pbs, rfl, h2, h3, h4, Nat.le_trans h5 hb.size, hM, h7.on hb h2 h3, h8.same (hb.block _ h4)⟩, hB.trans (hb.mono (by omega))⟩
theorem bhash_any (h : BAt W hbk rb pb sd P n) (hN : N ≤ hbk) (hB : Below N w W) :
    Calls Pz.prog 18 #[.pointer (some ⟨hbk, 0, none⟩), .int .i64 0, .int .i64 0] W fun e w' => e = .returned (.tuple #[.string (hash16 (bytesF (startTo sd P))), .int .i64 0]) ∧ BAt w' hbk rb pb sd P n ∧ Below N w w' := by
  obtain ⟨lo', mb, sb, hb', cap, tb, gv, uv, bs, g, pbs, rfl, h2, h3, h4, h5, h6, h7, h8⟩ := h
  exact (hhash_any h7 h6 h5).mono fun e w' ⟨he, hM, hb⟩ => ⟨he, ⟨lo', mb, sb, hb', cap, tb, gv, uv, bs, g, pbs, rfl, h2, h3, h4, Nat.le_trans h5 hb.size, hM, h7.on hb h2 h3, h8.same (hb.block _ h4)⟩, hB.trans (hb.mono (by omega))⟩
theorem blook_any (h : BAt W hbk rb pb sd P P) (p2 : 2 ≤ P) (p4 : P ≤ 4) (hN : N ≤ hbk) (hB : Below N w W) :
    Calls Pz.prog 20 #[.pointer (some ⟨hbk, 0, none⟩), .int .i64 0] W fun e w' => e = .returned (.tuple #[.agg #[.int .i64 2, .bool false, .int .i64 P, .int .i64 0, .int .i64 0, .int .i64 (-1)], .int .i64 0]) ∧ BAt w' hbk rb pb sd P P ∧ Below N w w' := by
  have h0 := h
  obtain ⟨lo', mb, sb, hb', cap, tb, gv, uv, bs, g, pbs, h1, h2, h3, h4, h5, h6, h7, h8⟩ := h
  exact (hlook_any h7 h6 p2 p4 h1 h5).mono fun e w' ⟨he, hb⟩ => ⟨he, h0.below hb, hB.trans (hb.mono (by omega))⟩
end
section
variable {W w w0 : World} {N hbk rb pb : Nat} {sd : Int} {P n : Nat}
/-- Create, for a play that has no match yet -/
theorem bcreate_any (hp : BlkAt W pb (playV0 hbk sd P) 37) (hh : BlkAt W hbk (hostV 0 rb) 120) (hr : BlkAt W rb (List.replicate 8 (.pointer none)) 125) (d1 : hbk ≠ rb) (d2 : pb ≠ hbk) (d3 : pb ≠ rb)
    (p2 : 2 ≤ P) (p4 : P ≤ 4) (s0 : 0 ≤ sd) (s1 : sd ≤ 999) (hB : Below N w0 W) (hC : ∀ W, Below N w0 W → Corners W ∧ W.cell? ⟨4, 15, none⟩ = some (.int .u8 4)) (l1 : N ≤ hbk) (l2 : N ≤ rb) :
    Calls Pz.prog 32 #[.pointer (some ⟨hbk, 0, none⟩), .int .i64 sd, .int .i64 P] W fun e w' => e = .returned (.tuple #[.int .i64 0, .int .i64 0]) ∧ (w'.cell? ⟨pb, 2, none⟩ = some (.int .i64 sd) ∧ w'.cell? ⟨pb, 3, none⟩ = some (.int .i64 P)) ∧ Hid (BAt w' hbk rb pb sd P 0 ∧ Below N w0 w') := by
  refine (hcreate_any sd P hh hr d1 p2 p4 s0 s1 hB hC l1 l2).mono fun e w' ⟨he, hM, hb, hk⟩ => ?_
  have hpl := hp.lt
  have hp' : BlkAt w' pb (playV0 hbk sd P) 37 := hp.same (hk.block _ hpl (by rintro (h | h) <;> omega))
  obtain ⟨lo', mb, sb, hb', cap, tb, gv, uv, bs, g, pbs, h1, h2, h3, h4, h5, h6, h7⟩ := hM
  exact ⟨he, ⟨hp'.cell rfl, hp'.cell rfl⟩, ⟨lo', mb, sb, hb', cap, tb, gv, uv, bs, g, pbs, h1, h3, h4, by omega, h5, h6, h7, hp'⟩, hB.trans hb⟩
/-- one watcher more, a block o having been made -/
theorem bwatch2_any (o : Obj) (h : BAt W hbk rb pb sd P n) (hN : N ≤ hbk) (hP : N ≤ pb) (hB : Below N w W) (hne : pb ≠ hbk) (hnr : pb ≠ rb) :
    Calls Pz.prog 21 #[.pointer (some ⟨pb, 0, none⟩)] (W.alloc o) fun e w' => e = .returned (.bool true) ∧ (w'.cell? ⟨pb, 2, none⟩ = some (.int .i64 sd) ∧ w'.cell? ⟨pb, 3, none⟩ = some (.int .i64 P)) ∧ pb < w'.heap.size ∧ w'.heap[W.heap.size]? = some o ∧ Below N w w' ∧ POn w' hbk rb pb sd P n := by
  have hb := (Below.refl W.heap.size W).alloc (Nat.le_refl _) o
  obtain ⟨lo', mb, sb, hb', cap, tb, gv, uv, bs, g, pbs, h1, h2, h3, h4, h5, h6, h7, h8⟩ := h
  have hml := h6.cells.lt
  have hlm := h6.lm
  have hz : (W.alloc o).heap.size = W.heap.size + 1 := by simp
  refine (kwatch_any (h8.same (hb.block _ h8.lt)) (h7.on hb h7.host.lt h7.rooms.lt) (h6.below hb) (by omega) h2 h4 h3 hne hnr).mono fun e w' ⟨he, hc, hk, hR, ⟨wl, wt, wc, hO⟩, a, b, hpb⟩ => ⟨he, hc, by have := hk.size; omega, ?_, (hB.alloc (by omega) o).trans (hk.below (B := N) (fun j hj => ?_) (by omega)), lo', mb, sb, hb', cap, tb, gv, uv, bs, g, pbs, wl, wt, wc, a, b, h1, h2, h3, h4, hO, hR, hpb⟩
  · rw [hk.block _ (by omega) (by rintro (e | e | e) <;> omega)]
    exact heap_alloc_new W o
  · rcases hj with rfl | rfl | rfl <;> omega
theorem BAt.setM (h : BAt W hbk rb pb sd P n) (d2 : pb ≠ hbk) (d3 : pb ≠ rb) : BAt (W.setCell ⟨pb, 1, none⟩ (.int .i64 0)) hbk rb pb sd P n := by
  obtain ⟨lo', mb, sb, hb', cap, tb, gv, uv, bs, g, pbs, h1, h2, h3, h4, h5, h6, h7, h8⟩ := h
  exact ⟨lo', mb, sb, hb', cap, tb, gv, uv, bs, g, pbs, h1, h2, h3, h4, by simpa using h5, h6.on (fun k hk _ => Below.heap_setCell W ⟨pb, 1, none⟩ _ k (by show k ≠ pb; omega)), ⟨h7.host.other (Ne.symm d2), h7.rooms.other (Ne.symm d3)⟩, h8.set 1 _⟩
end
set_option maxHeartbeats 8000000 in
set_option maxRecDepth 100000 in
theorem begin_any (seed players : Int) (w : World) (b0 : -9223372036854775808 ≤ seed) (b1 : seed ≤ 9223372036854775807) (b2 : -9223372036854775808 ≤ players) (b3 : players ≤ 9223372036854775807) (hC : Corners w) (hD : w.cell? ⟨4, 15, none⟩ = some (.int .u8 4)) :
    Calls Pz.prog 12 #[.int .i64 seed, .int .i64 players, .int .i64 0] w (Begun2 w (pickF seed 1000) (2 + pickF players 3).toNat) := by
  have r1 := pickF_range seed 1000 (by omega)
  have r2 := pickF_range players 3 (by omega)
  have hDl := cell_lt hD
  have HC : Hid (∀ W, Below w.heap.size w W → Corners W ∧ W.cell? ⟨4, 15, none⟩ = some (.int .u8 4)) := fun W hW => ⟨Corners.below hC hW, (hW.cell hDl).trans hD⟩
  have HK1 : Hid (∀ W, Calls Pz.prog 25 #[.int .i64 seed, .int .i64 1000] W fun e w' => e = .returned (.int .i64 (pickF seed 1000)) ∧ w' = W) := fun W => kpick_any seed 1000 W b0 b1 (by omega) (by omega)
  have HK2 : Hid (∀ W, Calls Pz.prog 25 #[.int .i64 players, .int .i64 3] W fun e w' => e = .returned (.int .i64 (pickF players 3)) ∧ w' = W) := fun W => kpick_any players 3 W b2 b3 (by omega) (by omega)
  have HK0 : Hid (∀ W, Calls Pz.prog 25 #[.int .i64 0, .int .i64 3] W fun e w' => e = .returned (.int .i64 0) ∧ w' = W) := fun W => kpick_any 0 3 W (by omega) (by omega) (by omega) (by omega)
  have HNew := (show Hid _ from new_any w)
  clear hC hD hDl
  generalize pickF seed 1000 = sd at *
  obtain ⟨P, hP⟩ : ∃ P : Nat, (P : Int) = 2 + pickF players 3 := ⟨(2 + pickF players 3).toNat, by omega⟩
  have hPn : (2 + pickF players 3).toNat = P := by omega
  rw [hPn]
  have p2 : 2 ≤ P := by omega
  have p4 : P ≤ 4 := by omega
  have hq3 : pickF players 3 = (P : Int) - 2 := by omega
  rw [hq3] at HK2
  have hsum : IntKind.i64.wrap (2 + ((P : Int) - 2)) = P := by rw [show (2 + ((P : Int) - 2)) = P by omega]; simp [IntKind.wrap, IntKind.bits, IntKind.signed]; omega
  clear hP hPn hq3 r2
  go_enter Pz.func12, Tryz.ntmps12
  go_wp2_with (first | (go_at_call 31; refine Calls.mono HNew.out ?_; rintro e w1 ⟨rfl, hr1, hh1, hz1, hb1⟩) | (go_at_call 25; with_reducible refine Calls.mono (HK1.out _) ?_; rintro e w' ⟨rfl, hw⟩; rw [hw]; clear hw w') | (go_at_call 25; with_reducible refine Calls.mono (HK2.out _) ?_; rintro e w' ⟨rfl, hw⟩; rw [hw]; clear hw w'))
  have hp2 : BlkAt (w1.alloc (.cells #[.pointer (some ⟨w.heap.size + 1, 0, none⟩), .int .i64 0, .int .i64 sd, .int .i64 P, .slice none 0 0, .slice none 0 0, .slice none 0 0, .slice none 0 0, .slice none 0 0, .slice none 0 0, .int .i64 0, .bool false] 37)) (w.heap.size + 2) (playV0 (w.heap.size + 1) sd P) 37 := by
    have h := BlkAt.new w1 (playV0 (w.heap.size + 1) sd P) 37
    rw [hz1] at h
    exact h
  have hh2 := hh1.alloc (.cells #[.pointer (some ⟨w.heap.size + 1, 0, none⟩), .int .i64 0, .int .i64 sd, .int .i64 P, .slice none 0 0, .slice none 0 0, .slice none 0 0, .slice none 0 0, .slice none 0 0, .slice none 0 0, .int .i64 0, .bool false] 37)
  have hr2 := hr1.alloc (.cells #[.pointer (some ⟨w.heap.size + 1, 0, none⟩), .int .i64 0, .int .i64 sd, .int .i64 P, .slice none 0 0, .slice none 0 0, .slice none 0 0, .slice none 0 0, .slice none 0 0, .slice none 0 0, .int .i64 0, .bool false] 37)
  have hb2 := hb1.alloc (by omega) (.cells #[.pointer (some ⟨w.heap.size + 1, 0, none⟩), .int .i64 0, .int .i64 sd, .int .i64 P, .slice none 0 0, .slice none 0 0, .slice none 0 0, .slice none 0 0, .slice none 0 0, .slice none 0 0, .int .i64 0, .bool false] 37)
  generalize (w1.alloc (.cells #[.pointer (some ⟨w.heap.size + 1, 0, none⟩), .int .i64 0, .int .i64 sd, .int .i64 P, .slice none 0 0, .slice none 0 0, .slice none 0 0, .slice none 0 0, .slice none 0 0, .slice none 0 0, .int .i64 0, .bool false] 37)) = w2 at *
  clear hr1 hh1 hb1 hz1 HNew HK1 HK2 hsum
  obtain ⟨hbk, ehb⟩ : ∃ x, x = w.heap.size + 1 := ⟨_, rfl⟩
  obtain ⟨rb, erb⟩ : ∃ x, x = w.heap.size := ⟨_, rfl⟩
  obtain ⟨pb, epb⟩ : ∃ x, x = w.heap.size + 2 := ⟨_, rfl⟩
  have HN : Hid (w.heap.size ≤ hbk ∧ w.heap.size ≤ rb ∧ w.heap.size ≤ pb ∧ hbk ≠ rb ∧ pb ≠ hbk ∧ pb ≠ rb) := by unfold Hid; omega
  rw [← ehb, ← epb] at hp2
  rw [← ehb] at hh2
  rw [← ehb, ← epb]
  have hh3 : BlkAt w2 hbk (hostV 0 rb) 120 := by rw [erb]; exact hh2
  have hr3 : BlkAt w2 rb (List.replicate 8 (.pointer none)) 125 := by rw [erb]; exact hr2
  clear hh2 hr2
  have HB2 := (show Hid _ from hb2)
  have c2 : w2.cell? ⟨pb, 2, none⟩ = some (.int .i64 sd) := hp2.cell rfl
  have c3 : w2.cell? ⟨pb, 3, none⟩ = some (.int .i64 P) := hp2.cell rfl
  have cc2 : w2.drew.cell? ⟨pb, 2, none⟩ = some (.int .i64 sd) := c2
  have cc3 : w2.drew.cell? ⟨pb, 3, none⟩ = some (.int .i64 P) := c3
  have HCr : Hid (Calls Pz.prog 32 #[.pointer (some ⟨hbk, 0, none⟩), .int .i64 sd, .int .i64 P] w2.drew fun e w' => e = .returned (.tuple #[.int .i64 0, .int .i64 0]) ∧ (w'.cell? ⟨pb, 2, none⟩ = some (.int .i64 sd) ∧ w'.cell? ⟨pb, 3, none⟩ = some (.int .i64 P)) ∧ Hid (BAt w' hbk rb pb sd P 0 ∧ Below w.heap.size w w')) :=
    bcreate_any (W := w2.drew) hp2 hh3 hr3 HN.out.2.2.2.1 HN.out.2.2.2.2.1 HN.out.2.2.2.2.2 p2 p4 r1.1 (by omega) hb2.drew HC.out HN.out.1 HN.out.2.1
  clear hp2 hh3 hr3 hb2 ehb erb epb
  go_loopw [11] (fun kv wr => (kv = .int .i64 0 ∧ wr = w2) ∨ (kv = .int .i64 1 ∧ BAt wr hbk rb pb sd P P ∧ Below w.heap.size w wr)) (fun kv _ => 1 - (intOf kv).toNat)
  case atStart => exact .inl ⟨rfl, rfl⟩
  case round =>
    rcases hrel with ⟨rfl, rfl⟩ | ⟨rfl, hBA, hBB⟩
    · go_wp2_with (go_at_call 25; refine Calls.mono (HK0.out _) ?_; rintro e w' ⟨rfl, hw⟩; rw [hw]; clear hw w')
      go_region_held3 (fun w' => w'.cell? ⟨pb, 2, none⟩ = some (.int .i64 sd) ∧ w'.cell? ⟨pb, 3, none⟩ = some (.int .i64 P)) (first | (with_reducible assumption) | (refine ⟨?_, ?_⟩ <;> (with_reducible assumption)) | go_keep) (first | (go_at_call 32; refine Calls.mono HCr.out ?_; rintro e w3 ⟨rfl, hqs, hq⟩))
      obtain ⟨hBA, hBB⟩ := hq.out
      have hpl := hBA.play
      have c1 : w3.cell? ⟨pb, 1, none⟩ = some (.int .i64 0) := hpl.cell rfl
      have f1 : w3.frozen? ⟨pb, 1, none⟩ = false := hpl.free 1
      have HBA4 : Hid (BAt (w3.setCell ⟨pb, 1, none⟩ (.int .i64 0)) hbk rb pb sd P 0) := hBA.setM HN.out.2.2.2.2.1 HN.out.2.2.2.2.2
      have HBB4 : Hid (Below w.heap.size w (w3.setCell ⟨pb, 1, none⟩ (.int .i64 0))) := hBB.setCell (p := ⟨pb, 1, none⟩) HN.out.2.2.1 _
      clear hBA hBB hpl hqs hq
      go_wp2_with fail
      go_loopw [14] (fun iv wq => ∃ i : Nat, i ≤ P ∧ iv = .int .i64 i ∧ BAt wq hbk rb pb sd P i ∧ Below w.heap.size w wq) (fun iv _ => P - (intOf iv).toNat)
      case atStart => exact ⟨0, by omega, rfl, HBA4.out, HBB4.out⟩
      case round =>
        obtain ⟨i, hi, rfl, hBA, hBB⟩ := hrel
        have x3 := hBA.play.cell (i := 3) rfl
        have HQA := (show Hid (BAt _ hbk rb pb sd P i) from hBA)
        have HQB := (show Hid _ from hBB)
        clear hBA hBB
        by_cases hlt : i < P
        · have HNm : Hid (∀ W, Calls Pz.prog 27 #[.int .i64 i] W fun e w' => e = .returned (.string ⟨#[(97 + i).toUInt8]⟩) ∧ w' = W) := fun W => kname_any i W (by omega)
          have HJ := (show Hid _ from bjoin_any HQA.out p4 hlt HN.out.1 HQB.out)
          generalize (⟨#[(97 + i).toUInt8]⟩ : ByteArray) = nm at *
          go_wp2_with (first | (go_at_call 27; refine Calls.mono (HNm.out _) ?_; rintro e w' ⟨rfl, hw⟩; rw [hw]; clear hw w') | (go_at_call 33; refine Calls.mono HJ.out ?_; rintro e w5 ⟨rfl, hA5, hB5⟩))
          exact ⟨⟨i + 1, by omega, by go_num, hA5, hB5⟩, by simp [intOf]; omega⟩
        · obtain rfl : i = P := by omega
          go_wp2_with fail
          exact ⟨.inr ⟨rfl, HQA.out, HQB.out⟩, by simp [intOf]⟩
    · have x1 := hBA.play.cell (i := 1) rfl
      have x2 := hBA.play.cell (i := 2) rfl
      have x3 := hBA.play.cell (i := 3) rfl
      have HFo : Hid (∀ W, BAt W hbk rb pb sd P P → Below w.heap.size w W → Calls Pz.prog 17 #[.int .i64 sd, .int .i64 P, .string ⟨#[]⟩] W fun e w' => e = .returned (.tuple #[.string (bytesF (startTo sd P)), .string (hash16 (bytesF (startTo sd P))), .int .i64 0]) ∧ (w'.cell? ⟨pb, 2, none⟩ = some (.int .i64 sd) ∧ w'.cell? ⟨pb, 3, none⟩ = some (.int .i64 P)) ∧ Hid (BAt w' hbk rb pb sd P P ∧ Below w.heap.size w w')) := fun W hA hB => by
        have hc := HC.out W hB
        refine (PFold_any sd P ⟨#[]⟩ W (by show 0 ≤ _; omega) hc.1 hc.2).mono fun e w' ⟨he, hb⟩ => ?_
        rw [fold_ok (mayB_of sd P r1.1 (by omega) p2 p4) (show turnsF ⟨#[]⟩ = some [] from rfl) (show playF (startTo sd P) [] = some (startTo sd P) from rfl)] at he
        have hA' := hA.below hb
        exact ⟨he, ⟨hA'.play.cell rfl, hA'.play.cell rfl⟩, hA', hB.trans (hb.mono hB.size)⟩
      have hsz := start_size sd P p2 p4
      have hhz := hash16_size (bytesF (startTo sd P))
      have HQA := (show Hid (BAt _ hbk rb pb sd P P) from hBA)
      have HQB := (show Hid _ from hBB)
      have HSt : Hid (∀ W, BAt W hbk rb pb sd P P → Below w.heap.size w W → _) := fun W hA hB => bstate_any (N := w.heap.size) (w := w) hA p2 p4 HN.out.1 hB
      have HHs : Hid (∀ W, BAt W hbk rb pb sd P P → Below w.heap.size w W → _) := fun W hA hB => bhash_any (N := w.heap.size) (w := w) hA HN.out.1 hB
      clear hBA hBB
      generalize bytesF (startTo sd P) = bt at *
      generalize hash16 bt = ht at *
      go_wp2_with (go_at_call 25; refine Calls.mono (HK0.out _) ?_; rintro e w' ⟨rfl, hw⟩; rw [hw]; clear hw w')
      go_region_held3 (fun w' => w'.cell? ⟨pb, 2, none⟩ = some (.int .i64 sd) ∧ w'.cell? ⟨pb, 3, none⟩ = some (.int .i64 P)) (first | (with_reducible assumption) | (refine ⟨?_, ?_⟩ <;> first | (with_reducible assumption) | exact x2 | exact x3) | go_keep) (first | (go_at_call 17; refine Calls.mono (HFo.out _ HQA.out.drew HQB.out.drew) ?_; rintro e w6 ⟨rfl, hqs, hq⟩))
      obtain ⟨hA6, hB6⟩ := hq.out
      have k6 := hA6.play.cell (i := 1) rfl
      clear hq hqs
      go_wp2_with (first
        | (go_at_call 19; refine Calls.mono (HSt.out _ hA6 hB6) ?_; rintro e w7 ⟨rfl, hA7, hB7⟩; have k7 := hA7.play.cell (i := 1) rfl)
        | (go_at_call 18; refine Calls.mono (HHs.out _ hA7 hB7) ?_; rintro e w8 ⟨rfl, hA8, hB8⟩; have k8 := hA8.play.cell (i := 1) rfl)
        | (go_at_call 20; refine Calls.mono (blook_any (N := w.heap.size) (w := w) hA8 p2 p4 HN.out.1 hB8) ?_; rintro e w9 ⟨rfl, hA9, hB9⟩))
      refine Calls.mono (bwatch2_any (N := w.heap.size) (w := w) _ hA9 HN.out.1 HN.out.2.2.1 hB9 HN.out.2.2.2.2.1 HN.out.2.2.2.2.2) ?_
      rintro e w10 ⟨rfl, ⟨y2, y3⟩, hpz, hvw, hB10, hPO⟩
      have HPO := (show Hid _ from hPO)
      clear hPO
      have hv10 : BlkAt w10 w9.heap.size (viewK P) 46 := hvw
      have hve := viewEq 2 P 0 0 (-1) false
      have hvg := viewGuard
      have HB10 := (show Hid _ from hB10)
      have q0 := hv10.cell (i := 0) rfl
      have q1 := hv10.cell (i := 1) rfl
      have q2 := hv10.cell (i := 2) rfl
      have q3 := hv10.cell (i := 3) rfl
      have q4 := hv10.cell (i := 4) rfl
      have q5 := hv10.cell (i := 5) rfl
      have hvl := hv10.lt
      clear hA6 hB6 hA7 hB7 hA8 hB8 hA9 hB9 k6 k7 k8 hvw hv10 hB10 HCr HFo HSt HHs HQA HQB
      generalize w9.heap.size = vb at *
      have z1 : ((ht.size : Nat) : Int) = 16 := by omega
      have z2 : ((bt.size : Nat) : Int) = 70 + 16 * (P : Int) := by omega
      have z3 : IntKind.i64.wrap (16 * (P : Int)) = 16 * (P : Int) := by simp [IntKind.wrap, IntKind.bits, IntKind.signed]; omega
      have z4 : IntKind.i64.wrap (70 + 16 * (P : Int)) = 70 + 16 * (P : Int) := by simp [IntKind.wrap, IntKind.bits, IntKind.signed]; omega
      clear hsz hhz
      go_wp2_with fail
      go_quiet (fail)
      go_wp2_with fail
      go_quiet (fail)
      go_wp2
      go_ret2
      exact ⟨pb, hbk, rb, rfl, HN.out.1, HN.out.2.1, HN.out.2.2.1, HN.out.2.2.2.1, HN.out.2.2.2.2.1, HN.out.2.2.2.2.2, POn.like HPO.out rfl, ⟨HB10.out.os, HB10.out.tape, HB10.out.output, HB10.out.size, HB10.out.block⟩⟩
end Go.Proofs.YtdianedehhecoaaGreatDoor
