/- A duel: begun, left, looked at; and the same of its host. -/
import Derived.Test.YtdianedehhecoaaGreatDoorMatchDuels
import Derived.Test.YtdianedehhecoaaGreatDoorProgIns
import Derived.Test.YtdianedehhecoaaGreatDoorHostLooks
import Derived.Test.YtdianedehhecoaaGreatDoorKeeps
import Derived.Test.YtdianedehhecoaaGreatDoorKeepBegin
namespace Go.Proofs.YtdianedehhecoaaGreatDoor
open Go.RowKit
set_option linter.unusedVariables false
set_option linter.unusedSimpArgs false

/-- a match of two that was begun -/
theorem MOn.duel {w : World} {lo mb : Nat} {sd : Int} {sb hb cap tb : Nat} {gv uv : Value} {bs : List Nat} {g : Nat} {pbs : List Nat} {wl wt wc : Nat} (h : MOn w lo mb sd 2 sb hb cap tb gv uv bs g pbs wl wt wc) (hn : pbs.length = 2) :
    ∃ p0 p1, Duel w 0 lo mb sb tb p0 p1 wl wt wc (startTo sd 2) (.slice (some ⟨hb, 0, none⟩) 1 cap) gv uv bs g 1 [.string (hash16 (bytesF (startTo sd 2)))] false false false false (.slice none 0 0) := by
  obtain ⟨p0, p1, rfl⟩ : ∃ p0 p1, pbs = [p0, p1] := by
    match pbs, hn with
    | [a, b], _ => exact ⟨a, b, rfl⟩
  have h0 : BlkAt w p0 (playerV 0) 184 := h.players 0 (by simp)
  have h1 : BlkAt w p1 (playerV 1) 184 := h.players 1 (by simp)
  have hne : p0 ≠ p1 := fun e => by
    rw [e] at h0
    have := (h0.cell (i := 0) rfl).symm.trans (h1.cell (i := 0) rfl)
    cases this
  have l0 := h.lp p0 (by simp)
  have l1 := h.lp p1 (by simp)
  have d4 := h.d4
  have d5 := h.d5
  refine ⟨p0, p1, ⟨h.cells, h.row, h.seats, h0, h1, h.ub, h.state.own fun k ho _ => ⟨ho.1, ?_, ?_⟩, ?_, h.wat, fun k hk => ?_, ?_, fun k e => ?_, startTo_inv sd 2 (by omega) (by omega)⟩⟩
  · have q := ho.2.2.2.2.1
    simp only [List.mem_cons, List.not_mem_nil, or_false, not_or] at q ⊢
    exact ⟨ho.2.1, ho.2.2.1, q.1, q.2, ho.2.2.2.2.2.1, ho.2.2.2.2.2.2⟩
  · intro e
    cases e
    exact ho.2.2.2.1 rfl
  · obtain ⟨g, cap, e, -, -, -, hc, -⟩ := h.wrow.form (by omega)
    cases e
    exact hc 0 _ rfl
  · simp only [List.mem_cons, List.not_mem_nil, or_false] at hk
    rcases hk with rfl | rfl | rfl | rfl | rfl | rfl
    · exact h.lm
    · exact h.lt
    · exact l0.1
    · exact l1.1
    · exact h.ll
    · exact h.lw
  · have d1 := h.d1
    have d6 := h.d6
    simp only [List.nodup_cons, List.mem_cons, List.not_mem_nil, or_false, not_or, List.nodup_nil, not_false_eq_true, and_true]
    exact ⟨⟨d1, Ne.symm l0.2.1, Ne.symm l1.2.1, Ne.symm d4.1, Ne.symm d5.1⟩, ⟨Ne.symm l0.2.2.1, Ne.symm l1.2.2.1, Ne.symm d4.2.1, Ne.symm d5.2.1⟩, ⟨hne, l0.2.2.2.2.1, l0.2.2.2.2.2⟩, ⟨l1.2.2.2.2.1, l1.2.2.2.2.2⟩, d6⟩
  · cases e
    have d2 := h.d2
    have d3 := h.d3
    refine ⟨h.lh, ?_⟩
    simp only [List.mem_cons, List.not_mem_nil, or_false, not_or]
    exact ⟨Ne.symm d2, Ne.symm d3, Ne.symm l0.2.2.2.1, Ne.symm l1.2.2.2.1, Ne.symm d4.2.2, Ne.symm d5.2.2⟩
section
variable {w : World} {lk : Int} {lo mb sb tb p0 p1 wl wt wc : Nat} {S : RS} {hv gv uv : Value} {bs : List Nat} {g n : Nat} {hs : List Value} {f0 l0 f1 l1 : Bool} {sv : Value}
/-- Over, once the match is locked -/
theorem Duel.over1 (h : Duel w 0 lo mb sb tb p0 p1 wl wt wc S hv gv uv bs g n hs f0 l0 f1 l1 sv) (hov : overB S = false) :
    Calls Pz.prog 39 #[.pointer (some ⟨sb, 0, none⟩)] (w.setCell ⟨mb, 0, none⟩ (.int .i32 1)) fun e w' => e = .returned (.bool false) ∧ Below w.heap.size (w.setCell ⟨mb, 0, none⟩ (.int .i32 1)) w' := by
  have H := (h.locks 1).over
  rw [hov, World.heap_setCell_size] at H
  exact H
/-- one gives up -/
theorem Duel.leave (h : Duel w 0 lo mb sb tb p0 p1 wl wt wc S hv gv uv bs g n hs false false false false sv) (hov : overB S = false) (k : Nat) (hk : k < 2) :
    Calls Pz.prog 49 #[.pointer (some ⟨mb, 0, none⟩), .string ⟨#[(97 + k).toUInt8]⟩] w fun e w' => e = .returned (.int .i64 0) ∧ Duel w' 0 lo mb sb tb p0 p1 wl wt wc S hv gv uv bs g n hs (decide (k = 0)) (decide (k = 0)) (decide (k = 1)) (decide (k = 1)) sv ∧ Below lo w w' := by
  have nd := h.nd
  simp only [List.nodup_cons, List.mem_cons, List.not_mem_nil, or_false, not_or] at nd
  have qm := h.low mb (by simp)
  have q0 := h.low p0 (by simp)
  have q1 := h.low p1 (by simp)
  have hpm : ∀ i : Nat, i < [p0, p1].length → [p0, p1].getD i 0 ≠ mb := fun i hi => by
    have : i = 0 ∨ i = 1 := by simp at hi; omega
    rcases this with rfl | rfl
    · exact Ne.symm nd.1.2.1
    · exact Ne.symm nd.1.2.2.1
  have fin : ∀ (p : Nat) (w2 : World), lo ≤ p → Below w.heap.size (w.setCell ⟨mb, 0, none⟩ (.int .i32 1)) w2 → Below lo w (((w2.setCell ⟨p, 4, none⟩ (.bool true)).setCell ⟨p, 5, none⟩ (.bool true)).setCell ⟨mb, 0, none⟩ (.int .i32 0)) := fun p w2 hp hb => by
    have hml := h.cells.lt
    have b0 : Below lo w (w.setCell ⟨mb, 0, none⟩ (.int .i32 1)) := Below.setCell (Below.refl _ _) qm _
    by_cases hlo : lo ≤ w.heap.size
    · exact (((b0.trans (hb.mono hlo)).setCell (p := ⟨p, 4, none⟩) hp _).setCell (p := ⟨p, 5, none⟩) hp _).setCell (p := ⟨mb, 0, none⟩) qm _
    · omega
  have hc : k = 0 ∨ k = 1 := by omega
  rcases hc with rfl | rfl
  · refine (mleave_first (pbs := [p0, p1]) h.cells h.seated (by simp) (Ne.symm nd.1.1) hpm (h.over1 hov) 0 (by simp) h.a).mono ?_
    rintro e w' ⟨he, w2, hb, rfl⟩
    have hd := (h.locks 1).below (by rw [World.heap_setCell_size]; exact hb)
    refine ⟨he, ?_, fin p0 w2 q0 hb⟩
    refine (hd.players (w' := (w2.setCell ⟨p0, 4, none⟩ (.bool true)).setCell ⟨p0, 5, none⟩ (.bool true)) (fun j _ j0 _ => ?_) ((hd.a.set 4 _).set 5 _) ((hd.b.other (Ne.symm nd.2.2.1.1)).other (Ne.symm nd.2.2.1.1))).locks 0
    rw [Below.heap_setCell _ ⟨p0, 5, none⟩ _ j j0, Below.heap_setCell _ ⟨p0, 4, none⟩ _ j j0]
  · refine (mleave_first (pbs := [p0, p1]) h.cells h.seated (by simp) (Ne.symm nd.1.1) hpm (h.over1 hov) 1 (by simp) h.b).mono ?_
    rintro e w' ⟨he, w2, hb, rfl⟩
    have hd := (h.locks 1).below (by rw [World.heap_setCell_size]; exact hb)
    refine ⟨he, ?_, fin p1 w2 q1 hb⟩
    refine (hd.players (w' := (w2.setCell ⟨p1, 4, none⟩ (.bool true)).setCell ⟨p1, 5, none⟩ (.bool true)) (fun j _ _ j1 => ?_) ((hd.a.other nd.2.2.1.1).other nd.2.2.1.1) ((hd.b.set 4 _).set 5 _)).locks 0
    rw [Below.heap_setCell _ ⟨p1, 5, none⟩ _ j j1, Below.heap_setCell _ ⟨p1, 4, none⟩ _ j j1]
/-- and once more -/
theorem Duel.again (k : Nat) (hk : k < 2) (h : Duel w 0 lo mb sb tb p0 p1 wl wt wc S hv gv uv bs g n hs (decide (k = 0)) l0 (decide (k = 1)) l1 sv) (hov : overB S = false) :
    Calls Pz.prog 49 #[.pointer (some ⟨mb, 0, none⟩), .string ⟨#[(97 + k).toUInt8]⟩] w fun e w' => e = .returned (.int .i64 4) ∧ Below w.heap.size w w' := by
  have nd := h.nd
  simp only [List.nodup_cons, List.mem_cons, List.not_mem_nil, or_false, not_or] at nd
  have hpm : ∀ i : Nat, i < [p0, p1].length → [p0, p1].getD i 0 ≠ mb := fun i hi => by
    have : i = 0 ∨ i = 1 := by simp at hi; omega
    rcases this with rfl | rfl
    · exact Ne.symm nd.1.2.1
    · exact Ne.symm nd.1.2.2.1
  have hc : k = 0 ∨ k = 1 := by omega
  rcases hc with rfl | rfl
  · exact mleave_again (pbs := [p0, p1]) h.cells h.seated (by simp) (Ne.symm nd.1.1) hpm (h.over1 hov) 0 (by simp) h.a
  · exact mleave_again (pbs := [p0, p1]) h.cells h.seated (by simp) (Ne.symm nd.1.1) hpm (h.over1 hov) 1 (by simp) h.b
theorem Duel.winner (h : Duel w lk lo mb sb tb p0 p1 wl wt wc S hv gv uv bs g n hs f0 l0 f1 l1 sv) :
    Calls Pz.prog 93 #[.pointer (some ⟨sb, 0, none⟩)] w fun e w' => e = .returned (.int .i64 (winP (toPS S).units)) ∧ Below w.heap.size w w' :=
  PWinner_any h.state h.ub h.inv.toP.n (toPS_own h.inv)
theorem Duel.look (h : Duel w 0 lo mb sb tb p0 p1 wl wt wc S hv gv uv bs g n hs f0 l0 f1 l1 sv) :
    Calls Pz.prog 46 #[.pointer (some ⟨mb, 0, none⟩)] w fun e w' => e = .returned (.agg #[.int .i64 (if overB S then 3 else 2), .bool false, .int .i64 2, .int .i64 S.turn, .int .i64 0, .int .i64 (winP (toPS S).units)]) ∧ Below w.heap.size w w' := by
  have nd := h.nd
  simp only [List.nodup_cons, List.mem_cons, List.not_mem_nil, or_false, not_or] at nd
  have hW : ∀ W, Below w.heap.size (w.setCell ⟨mb, 0, none⟩ (.int .i32 1)) W → Duel W 1 lo mb sb tb p0 p1 wl wt wc S hv gv uv bs g n hs f0 l0 f1 l1 sv := fun W hb => (h.locks 1).below (by rw [World.heap_setCell_size]; exact hb)
  exact mlook_gen (P := 2) (ad := fun _ => none) (ln := fun _ => 0) (cp := fun _ => 0) (pbs := [p0, p1]) h.cells (by omega) (fun _ => by omega)
    (fun i hi => by
      have : i = 0 ∨ i = 1 := by omega
      rcases this with rfl | rfl
      · exact ⟨h.seats.cell rfl, h.a.cell rfl, Ne.symm nd.1.2.1⟩
      · exact ⟨h.seats.cell rfl, h.b.cell rfl, Ne.symm nd.1.2.2.1⟩) (Ne.symm nd.1.1) (fun W hb => (hW W hb).phase) (fun W hb => (hW W hb).turn) (fun W hb => (hW W hb).winner)
end
section
variable {w : World} {hbk rb mb : Nat}
set_option maxHeartbeats 2000000 in
set_option maxRecDepth 20000 in
theorem hleave_gen {xs : List Value} {s : ByteArray} {Q : Ending → World → Prop} {x : Int} (hh : HRoom w hbk rb mb) (hm : BlkAt w mb xs 136) (hl : xs.length = 7) (hL : Calls Pz.prog 49 #[.pointer (some ⟨mb, 0, none⟩), .string s] w fun e w' => e = .returned (.int .i64 x) ∧ Q e w') :
    Calls Pz.prog 26 #[.pointer (some ⟨hbk, 0, none⟩), .int .i64 0, .string s] w fun e w' => e = .returned (.int .i64 x) ∧ Q e w' := by
  have HF := (show Hid _ from find_any hh hm hl)
  have HJ := (show Hid _ from hL)
  clear hh hm hl hL
  go_enter Pz.func26, Tryz.ntmps26
  go_wp2_with (first | (go_at_call 43; refine Calls.mono HF.out ?_; rintro e w' ⟨rfl, rfl⟩) | (go_at_call 49; refine Calls.mono HJ.out ?_; rintro e w' ⟨rfl, hq⟩))
  go_ret
  exact ⟨rfl, hq⟩
end
/-- one gives up -/
theorem gives_over (sd : Int) (k : Nat) (hk : k < 2) : overB (doF (startTo sd 2) (gives k)) = true := by
  have h : k = 0 ∨ k = 1 := by omega
  have h0 : overB (doF (startTo sd 2) (gives 0)) = true := by kernel_rfl
  have h1 : overB (doF (startTo sd 2) (gives 1)) = true := by kernel_rfl
  rcases h with rfl | rfl
  · exact h0
  · exact h1
theorem gives_wins (sd : Int) (k : Nat) (hk : k < 2) : winP (toPS (doF (startTo sd 2) (gives k))).units = 1 - k := by
  have h : k = 0 ∨ k = 1 := by omega
  have h0 : winP (toPS (doF (startTo sd 2) (gives 0))).units = 1 := by kernel_rfl
  have h1 : winP (toPS (doF (startTo sd 2) (gives 1))).units = 0 := by kernel_rfl
  rcases h with rfl | rfl
  · exact h0
  · exact h1
theorem gives_turn (sd : Int) (k : Nat) : (doF (startTo sd 2) (gives k)).turn = 1 := by
  rw [(doF_turn _ _).1, (startTo_ore sd 2).2]
  rfl
/-- a host, its first match a duel, and a play of it -/
def SOn (W : World) (hbk rb pb : Nat) (sd : Int) (S : RS) (f0 l0 f1 l1 : Bool) (sv : Value) (pv : List Value) : Prop :=
  ∃ (lo mb sb tb p0 p1 wl wt wc : Nat) (hv gv uv : Value) (bs : List Nat) (g n : Nat) (hs : List Value), hbk < lo ∧ rb < lo ∧ pb < lo ∧ lo ≤ W.heap.size ∧ (n : Int) ≤ S.turn + 1 ∧ Duel W 0 lo mb sb tb p0 p1 wl wt wc S hv gv uv bs g n hs f0 l0 f1 l1 sv ∧ HRoom W hbk rb mb ∧ BlkAt W pb pv 37
section
variable {W W' : World} {hbk rb pb : Nat} {sd : Int} {S : RS} {f0 l0 f1 l1 : Bool} {sv : Value} {pv : List Value}
theorem SOn.on (h : SOn W hbk rb pb sd S f0 l0 f1 l1 sv pv) (hz : W.heap.size ≤ W'.heap.size) (hb : ∀ k, k < W.heap.size → W'.heap[k]? = W.heap[k]?) : SOn W' hbk rb pb sd S f0 l0 f1 l1 sv pv := by
  obtain ⟨lo, mb, sb, tb, p0, p1, wl, wt, wc, hv, gv, uv, bs, g, n, hs, h1, h2, h3, h4, h5, h6, h7, h8⟩ := h
  exact ⟨lo, mb, sb, tb, p0, p1, wl, wt, wc, hv, gv, uv, bs, g, n, hs, h1, h2, h3, by omega, h5, h6.on fun k _ hk => hb k hk, h7.on (hb _ (by omega)) (hb _ (by omega)), h8.same (hb _ (by omega))⟩
theorem SOn.below (h : SOn W hbk rb pb sd S f0 l0 f1 l1 sv pv) (hb : Below W.heap.size W W') : SOn W' hbk rb pb sd S f0 l0 f1 l1 sv pv := h.on hb.size hb.block
theorem SOn.play (h : SOn W hbk rb pb sd S f0 l0 f1 l1 sv pv) : BlkAt W pb pv 37 := by
  obtain ⟨lo, mb, sb, tb, p0, p1, wl, wt, wc, hv, gv, uv, bs, g, n, hs, h1, h2, h3, h4, h5, h6, h7, h8⟩ := h
  exact h8
theorem sleave (h : SOn W hbk rb pb sd S false false false false sv pv) (hov : overB S = false) (k : Nat) (hk : k < 2) {N : Nat} (hN : N ≤ hbk) :
    Calls Pz.prog 26 #[.pointer (some ⟨hbk, 0, none⟩), .int .i64 0, .string ⟨#[(97 + k).toUInt8]⟩] W fun e w' => e = .returned (.int .i64 0) ∧ SOn w' hbk rb pb sd S (decide (k = 0)) (decide (k = 0)) (decide (k = 1)) (decide (k = 1)) sv pv ∧ Below N W w' := by
  obtain ⟨lo, mb, sb, tb, p0, p1, wl, wt, wc, hv, gv, uv, bs, g, n, hs, h1, h2, h3, h4, h5, h6, h7, h8⟩ := h
  refine (hleave_gen h7 h6.cells rfl (h6.leave hov k hk)).mono ?_
  rintro e w' ⟨he, hd, hb⟩
  exact ⟨he, ⟨lo, mb, sb, tb, p0, p1, wl, wt, wc, hv, gv, uv, bs, g, n, hs, h1, h2, h3, by have := hb.size; omega, h5, hd, h7.on (hb.block _ h1) (hb.block _ h2), h8.same (hb.block _ h3)⟩, hb.mono (by omega)⟩
theorem sagain (k : Nat) (hk : k < 2) (h : SOn W hbk rb pb sd S (decide (k = 0)) l0 (decide (k = 1)) l1 sv pv) (hov : overB S = false) :
    Calls Pz.prog 26 #[.pointer (some ⟨hbk, 0, none⟩), .int .i64 0, .string ⟨#[(97 + k).toUInt8]⟩] W fun e w' => e = .returned (.int .i64 4) ∧ Below W.heap.size W w' := by
  obtain ⟨lo, mb, sb, tb, p0, p1, wl, wt, wc, hv, gv, uv, bs, g, n, hs, h1, h2, h3, h4, h5, h6, h7, h8⟩ := h
  exact hleave_gen h7 h6.cells rfl (h6.again k hk hov)
theorem slook (h : SOn W hbk rb pb sd S f0 l0 f1 l1 sv pv) :
    Calls Pz.prog 20 #[.pointer (some ⟨hbk, 0, none⟩), .int .i64 0] W fun e w' => e = .returned (.tuple #[.agg #[.int .i64 (if overB S then 3 else 2), .bool false, .int .i64 2, .int .i64 S.turn, .int .i64 0, .int .i64 (winP (toPS S).units)], .int .i64 0]) ∧ Below W.heap.size W w' := by
  obtain ⟨lo, mb, sb, tb, p0, p1, wl, wt, wc, hv, gv, uv, bs, g, n, hs, h1, h2, h3, h4, h5, h6, h7, h8⟩ := h
  exact hlook_gen h7 h6.cells rfl (h6.below ((Below.refl _ _).alloc (Nat.le_refl _) _)).look
end
end Go.Proofs.YtdianedehhecoaaGreatDoor

/- The loop of Strangers that makes the turn's bytes. -/
namespace Go.Proofs.YtdianedehhecoaaGreatDoor
open Go.RowKit
set_option linter.unusedVariables false
set_option linter.unusedSimpArgs false

noncomputable def cStr : Code := (Tryz.f10.body).getD .skip
noncomputable def cStr5 : Code := after 5 cStr
noncomputable def cStr7 : Code := after 7 cStr
noncomputable def cStr13 : Code := after 13 cStr
section
variable {w1 : World} {cv seed who : Value} {L : List Int} {pb : Nat} {x8 x28 x29 x30 x31 x32 x33 x34 x35 x36 x37 x38 : Value}
theorem byteS {n : Int} (h0 : 0 ≤ n) (h1 : n ≤ 255) : IntKind.u8.wrap n = n := by simp [IntKind.wrap, IntKind.bits, IntKind.signed]; omega
set_option maxHeartbeats 8000000 in
set_option maxRecDepth 100000 in
/-- the loop that makes the turn's bytes -/
theorem strange_loop {nv : Int} (hN : NArg w1 cv L) (hL : L.length ≤ 140737488351232) (hnv : nv = (nS L : Int)) :
    Upto Pz.prog cStr5 cStr7 (fun a w' => a.defers = [] ∧ a.tmps.size = 240 ∧ a.tmps.getD 2 undef = who ∧ a.tmps.getD 7 undef = .pointer (some ⟨pb, 0, none⟩) ∧ a.tmps.getD 10 undef = .string (turnS L) ∧ Below w1.heap.size w1 w')
      { tmps := #[seed, cv, who, undef, undef, undef, .bool false, .pointer (some ⟨pb, 0, none⟩), x8, .int .i64 nv, undef, undef, undef, undef, undef, undef, undef, undef, undef, undef, undef, undef, undef, undef, undef, undef, undef, undef, x28, x29, x30, x31, x32, x33, x34, x35, x36, x37, x38, undef, undef, undef, undef, undef, undef, undef, undef, undef, undef, undef, undef, undef, undef, undef, undef, undef, undef, undef, undef, undef, undef, undef, undef, undef, undef, undef, undef, undef, undef, undef, undef, undef, undef, undef, undef, undef, undef, undef, undef, undef, undef, undef, undef, undef, undef, undef, undef, undef, undef, undef, undef, undef, undef, undef, undef, undef, undef, undef, undef, undef, undef, undef, undef, undef, undef, undef, undef, undef, undef, undef, undef, undef, undef, undef, undef, undef, undef, undef, undef, undef, undef, undef, undef, undef, undef, undef, undef, undef, undef, undef, undef, undef, undef, undef, undef, undef, undef, undef, undef, undef, undef, undef, undef, undef, undef, undef, undef, undef, undef, undef, undef, undef, undef, undef, undef, undef, undef, undef, undef, undef, undef, undef, undef, undef, undef, undef, undef, undef, undef, undef, undef, undef, undef, undef, undef, undef, undef, undef, undef, undef, undef, undef, undef, undef, undef, undef, undef, undef, undef, undef, undef, undef, undef, undef, undef, undef, undef, undef, undef, undef, undef, undef, undef, undef, undef, undef, undef, undef, undef, undef, undef, undef, undef, undef, undef, undef, undef, undef, undef, undef, undef, undef, undef, undef, undef, undef, undef, undef, undef, undef, undef, undef, undef, undef, undef, undef, undef, undef, undef, undef], defers := [] } w1 := by
  simp only [cStr5, cStr, after, Tryz.f10, Option.getD, List.size_toArray, List.length_cons, List.length_nil, Nat.reduceAdd, Nat.reduceSub, Array.replicate_succ, Array.replicate_zero, List.push_toArray, List.append_toArray, List.nil_append, List.cons_append]
  subst hnv
  obtain ⟨ca, ccap, rfl, hcs⟩ := hN
  have hn := nS_le L
  have HCS := (show Hid _ from hcs)
  have kc1 := kconv1
  obtain ⟨n, hnn⟩ : ∃ n : Nat, n = nS L := ⟨_, rfl⟩
  rw [← hnn]
  have hw : IntKind.u8.wrap (n : Int) = n := byteS (by omega) (by omega)
  have HN1 : Hid (strOfNums [(n : Int)] ++ cmdsS L 0 = strOfNums [(n : Int)]) := by
    unfold Hid
    rw [show cmdsS L 0 = ⟨#[]⟩ from rfl]
    apply ByteArray.ext
    simp
  have HNN : Hid (n = nS L) := hnn
  have hn1 : n ≤ 36 ∧ n ≤ L.length := by omega
  clear hcs hnn hn
  apply Upto.seq_k; intro _ _
  go_wp2
  apply Upto.seq_k; intro _ _
  go_wp2
  have HB0 : Hid (Below w1.heap.size w1 (w1.alloc (.cells #[.int .u8 (n : Int)] 5))) := (Below.refl _ _).alloc (Nat.le_refl _) _
  go_loopw [10, 11] (fun tv iv wr => ∃ q : Nat, q ≤ n ∧ iv = .int .i64 q ∧ tv = .string (strOfNums [(n : Int)] ++ cmdsS L q) ∧ Below w1.heap.size w1 wr) (fun _ iv _ => n - (intOf iv).toNat)
  case atStart => exact ⟨0, by omega, rfl, by rw [HN1.out], HB0.out⟩
  case round =>
    clear HB0 HN1
    obtain ⟨q, hq, rfl, rfl, hbq⟩ := hrel
    by_cases hlt : q < n
    · have hqi : (q : Int) < n := by omega
      have hql : q < L.length := by omega
      obtain ⟨g, o, rfl, hg, hc, r0, r1⟩ := HCS.out q hql
      have d1 := (hbq.cell (p := ⟨g, o + q, none⟩) hg).trans hc
      have hqli : (q : Int) < L.length := by omega
      have HPk : Hid (∀ W, Calls Pz.prog 25 #[.int .i64 (L.getD q 0), .int .i64 1099511627776] W fun e w' => e = .returned (.int .i64 (pickF (L.getD q 0) 1099511627776)) ∧ w' = W) := fun W => kpick_any (L.getD q 0) 1099511627776 W r0 r1 (by omega) (by omega)
      obtain ⟨c0, c1⟩ := pickF_range (L.getD q 0) 1099511627776 (by omega)
      have HCm : Hid (cmdsS L (q + 1) = cmdsS L q ++ strOfNums (numsS (pickF (L.getD q 0) 1099511627776))) := rfl
      have hcz := cmdsS_size L q
      have Hbq := (show Hid _ from hbq)
      clear hbq hc
      generalize L.getD q 0 = cr at *
      generalize pickF cr 1099511627776 = c at *
      have HNs : Hid (numsS c = numsS c) := rfl
      have hsz := strS_size c
      have kc := conv5
      have t1 : Int.tdiv c 64 = c / 64 := Int.tdiv_eq_ediv_of_nonneg c0
      have t2 : Int.tmod (c / 64) 8 = c / 64 % 8 := Int.tmod_eq_emod_of_nonneg (by omega)
      have t3 : Int.tdiv c 512 = c / 512 := Int.tdiv_eq_ediv_of_nonneg c0
      have t4 : Int.tmod (c / 512) 8 = c / 512 % 8 := Int.tmod_eq_emod_of_nonneg (by omega)
      have t5 : Int.tmod c 2 = c % 2 := Int.tmod_eq_emod_of_nonneg c0
      have t6 : Int.tdiv c 2 = c / 2 := Int.tdiv_eq_ediv_of_nonneg c0
      have t7 : Int.tmod (c / 2) 4 = c / 2 % 4 := Int.tmod_eq_emod_of_nonneg (by omega)
      have t8 : Int.tdiv c 8 = c / 8 := Int.tdiv_eq_ediv_of_nonneg c0
      have t9 : Int.tmod (c / 8) 2 = c / 8 % 2 := Int.tmod_eq_emod_of_nonneg (by omega)
      have t10 : Int.tdiv c 16 = c / 16 := Int.tdiv_eq_ediv_of_nonneg c0
      have t11 : Int.tmod (c / 16) 5 = c / 16 % 5 := Int.tmod_eq_emod_of_nonneg (by omega)
      have t12 : Int.tmod (c / 8) 200 = c / 8 % 200 := Int.tmod_eq_emod_of_nonneg (by omega)
      have t13 : Int.tmod (c / 16) 4 = c / 16 % 4 := Int.tmod_eq_emod_of_nonneg (by omega)
      have hX : (strOfNums [(n : Int)] ++ cmdsS L q).size ≤ 1000 := by rw [ByteArray.size_append, hcz]; show 1 + _ ≤ _; omega
      have r2 : ∀ (W : World) (xs : List Int), (strOfNums xs).size = 5 → (Op.stringOp .add (strOfNums [(n : Int)] ++ cmdsS L q) (strOfNums xs)).run Pz.prog W = .ok (.string (strOfNums [(n : Int)] ++ cmdsS L q ++ strOfNums xs)) W := fun W xs hxs => run_string_add_sum W _ _ (by omega)
      have HX : Hid (∀ Y, strOfNums [(n : Int)] ++ cmdsS L q ++ Y = strOfNums [(n : Int)] ++ (cmdsS L q ++ Y)) := fun Y => ByteArray.append_assoc
      have hs5 : ∀ a b c d e : Int, (strOfNums [a, b, c, d, e]).size = 5 := fun _ _ _ _ _ => rfl
      generalize strOfNums [(n : Int)] ++ cmdsS L q = X at *
      by_cases e0 : c / 2 % 4 = 0
      · have HE : Hid (numsS c = [c % 2, 3 - 2 * (c % 2) + c / 8 % 2, 1 + c / 16 % 5, c / 64 % 8, c / 512 % 8]) := by unfold Hid numsS; rw [if_pos e0]
        have u1 : IntKind.u8.wrap (2 * (c % 2)) = 2 * (c % 2) := byteS (by omega) (by omega)
        have u2 : IntKind.u8.wrap (3 - 2 * (c % 2)) = 3 - 2 * (c % 2) := byteS (by omega) (by omega)
        have u3 : IntKind.u8.wrap (3 - 2 * (c % 2) + c / 8 % 2) = 3 - 2 * (c % 2) + c / 8 % 2 := byteS (by omega) (by omega)
        go_wp2_with (go_at_call 25; refine Calls.mono (HPk.out _) ?_; rintro e w' ⟨rfl, hx'⟩; rw [hx']; clear hx' w')
        exact ⟨⟨q + 1, by omega, by go_num, by rw [HX.out, HCm.out, HE.out], Hbq.out.alloc Hbq.out.size _⟩, by simp [intOf]; omega⟩
      by_cases e1 : c / 2 % 4 = 1
      · have HE : Hid (numsS c = [c % 2, 5 + c / 8 % 200, 1 + c / 16 % 5, c / 64 % 8, c / 512 % 8]) := by unfold Hid numsS; rw [if_neg e0, if_pos e1]
        have u1 : IntKind.u8.wrap (5 + c / 8 % 200) = 5 + c / 8 % 200 := byteS (by omega) (by omega)
        clear e0
        go_wp2_with (go_at_call 25; refine Calls.mono (HPk.out _) ?_; rintro e w' ⟨rfl, hx'⟩; rw [hx']; clear hx' w')
        exact ⟨⟨q + 1, by omega, by go_num, by rw [HX.out, HCm.out, HE.out], Hbq.out.alloc Hbq.out.size _⟩, by simp [intOf]; omega⟩
      by_cases e2 : c / 2 % 4 = 2
      · have HE : Hid (numsS c = [c % 2, 1 + 2 * (c % 2), 1 + c / 16 % 5, 7 * (c % 2), 7 * (c % 2) + 200 * (c / 8 % 2)]) := by unfold Hid numsS; rw [if_neg e0, if_neg e1, if_pos e2]
        have u1 : IntKind.u8.wrap (2 * (c % 2)) = 2 * (c % 2) := byteS (by omega) (by omega)
        have u2 : IntKind.u8.wrap (1 + 2 * (c % 2)) = 1 + 2 * (c % 2) := byteS (by omega) (by omega)
        have u3 : IntKind.u8.wrap (7 * (c % 2)) = 7 * (c % 2) := byteS (by omega) (by omega)
        have u4 : IntKind.u8.wrap (200 * (c / 8 % 2)) = 200 * (c / 8 % 2) := byteS (by omega) (by omega)
        have u5 : IntKind.u8.wrap (7 * (c % 2) + 200 * (c / 8 % 2)) = 7 * (c % 2) + 200 * (c / 8 % 2) := byteS (by omega) (by omega)
        clear e0 e1
        go_wp2_with (go_at_call 25; refine Calls.mono (HPk.out _) ?_; rintro e w' ⟨rfl, hx'⟩; rw [hx']; clear hx' w')
        exact ⟨⟨q + 1, by omega, by go_num, by rw [HX.out, HCm.out, HE.out], Hbq.out.alloc Hbq.out.size _⟩, by simp [intOf]; omega⟩
      have e3 : c / 2 % 4 = 3 := by omega
      have HE : Hid (numsS c = [c % 2, 1 + 2 * (c % 2), kindsS c, 5 * (c % 2) + 1, 7 * (c % 2)]) := by unfold Hid numsS; rw [if_neg e0, if_neg e1, if_neg e2]
      have u1 : IntKind.u8.wrap (2 * (c % 2)) = 2 * (c % 2) := byteS (by omega) (by omega)
      have u2 : IntKind.u8.wrap (1 + 2 * (c % 2)) = 1 + 2 * (c % 2) := byteS (by omega) (by omega)
      have u3 : IntKind.u8.wrap (5 * (c % 2)) = 5 * (c % 2) := byteS (by omega) (by omega)
      have u4 : IntKind.u8.wrap (5 * (c % 2) + 1) = 5 * (c % 2) + 1 := byteS (by omega) (by omega)
      have u5 : IntKind.u8.wrap (7 * (c % 2)) = 7 * (c % 2) := byteS (by omega) (by omega)
      clear e0 e1 e2
      have kc2 : ∀ (w : World) (o : Obj) (a b c d e : Int), (convert 55 9 (.slice (some ⟨w.heap.size + 1, 0, none⟩) 5 5)).run Pz.prog ((w.alloc o).alloc (.cells #[.int .u8 a, .int .u8 b, .int .u8 c, .int .u8 d, .int .u8 e] 5)) = .ok (.string (strOfNums [a, b, c, d, e])) ((w.alloc o).alloc (.cells #[.int .u8 a, .int .u8 b, .int .u8 c, .int .u8 d, .int .u8 e] 5)) := fun w o a b c d e => by
        have h := conv5 (w.alloc o) a b c d e
        rw [show (w.alloc o).heap.size = w.heap.size + 1 by simp] at h
        exact h
      have hk4 : c / 16 % 4 = 0 ∨ c / 16 % 4 = 1 ∨ c / 16 % 4 = 2 ∨ c / 16 % 4 = 3 := by omega
      rcases hk4 with k4 | k4 | k4 | k4
      all_goals
        rw [k4] at t13
        have HK4 := (show Hid _ from k4)
        clear k4
        go_wp2_with (go_at_call 25; refine Calls.mono (HPk.out _) ?_; rintro e w' ⟨rfl, hx'⟩; rw [hx']; clear hx' w')
        refine ⟨⟨q + 1, by omega, by go_num, ?_, (Hbq.out.alloc Hbq.out.size _).alloc (Nat.le_trans Hbq.out.size (by simp)) _⟩, by simp [intOf]; omega⟩
        rw [HX.out, HCm.out, HE.out]
        unfold kindsS
        rw [HK4.out]
        rfl
    · obtain rfl : q = n := by omega
      go_wp2
      refine Upto.here (by kernel_rfl) ⟨rfl, rfl, rfl, rfl, ?_, hbq⟩
      show Value.string (strOfNums [(q : Int)] ++ cmdsS L q) = _
      unfold turnS
      rw [← HNN.out]
end
end Go.Proofs.YtdianedehhecoaaGreatDoor

/- Strangers, alone, up to its tick. -/
namespace Go.Proofs.YtdianedehhecoaaGreatDoor
open Go.RowKit
set_option linter.unusedVariables false
set_option linter.unusedSimpArgs false

/-- a play of two -/
def playV (hbk : Nat) (sd : Int) (a b : Value) (t : Int) (o : Bool) : List Value := [.pointer (some ⟨hbk, 0, none⟩), .int .i64 0, .int .i64 sd, .int .i64 2, .slice none 0 0, .slice none 0 0, .slice none 0 0, .slice none 0 0, a, b, .int .i64 t, .bool o]
theorem POn.son {W : World} {hbk rb pb : Nat} {sd : Int} (h : POn W hbk rb pb sd 2 2) : ∃ a b, SOn W hbk rb pb sd (startTo sd 2) false false false false (.slice none 0 0) (playV hbk sd a b 0 false) := by
  obtain ⟨lo', mb, sb, hb, cap, tb, gv, uv, bs, g, pbs, wl, wt, wc, a, b, h1, h2, h3, h4, h5, h6, h7⟩ := h
  obtain ⟨p0, p1, hd⟩ := h5.duel h1
  have hl := h5.lm
  have hm := h5.cells.lt
  exact ⟨a, b, lo', mb, sb, tb, p0, p1, wl, wt, wc, _, gv, uv, bs, g, 1, _, h2, h3, h4, by omega, by rw [(startTo_ore sd 2).2]; decide, hd, h6, h7⟩
theorem lit240 (f : Nat → Value) : ((List.range 240).map f).toArray = #[f 0, f 1, f 2, f 3, f 4, f 5, f 6, f 7, f 8, f 9, f 10, f 11, f 12, f 13, f 14, f 15, f 16, f 17, f 18, f 19, f 20, f 21, f 22, f 23, f 24, f 25, f 26, f 27, f 28, f 29, f 30, f 31, f 32, f 33, f 34, f 35, f 36, f 37, f 38, f 39, f 40, f 41, f 42, f 43, f 44, f 45, f 46, f 47, f 48, f 49, f 50, f 51, f 52, f 53, f 54, f 55, f 56, f 57, f 58, f 59, f 60, f 61, f 62, f 63, f 64, f 65, f 66, f 67, f 68, f 69, f 70, f 71, f 72, f 73, f 74, f 75, f 76, f 77, f 78, f 79, f 80, f 81, f 82, f 83, f 84, f 85, f 86, f 87, f 88, f 89, f 90, f 91, f 92, f 93, f 94, f 95, f 96, f 97, f 98, f 99, f 100, f 101, f 102, f 103, f 104, f 105, f 106, f 107, f 108, f 109, f 110, f 111, f 112, f 113, f 114, f 115, f 116, f 117, f 118, f 119, f 120, f 121, f 122, f 123, f 124, f 125, f 126, f 127, f 128, f 129, f 130, f 131, f 132, f 133, f 134, f 135, f 136, f 137, f 138, f 139, f 140, f 141, f 142, f 143, f 144, f 145, f 146, f 147, f 148, f 149, f 150, f 151, f 152, f 153, f 154, f 155, f 156, f 157, f 158, f 159, f 160, f 161, f 162, f 163, f 164, f 165, f 166, f 167, f 168, f 169, f 170, f 171, f 172, f 173, f 174, f 175, f 176, f 177, f 178, f 179, f 180, f 181, f 182, f 183, f 184, f 185, f 186, f 187, f 188, f 189, f 190, f 191, f 192, f 193, f 194, f 195, f 196, f 197, f 198, f 199, f 200, f 201, f 202, f 203, f 204, f 205, f 206, f 207, f 208, f 209, f 210, f 211, f 212, f 213, f 214, f 215, f 216, f 217, f 218, f 219, f 220, f 221, f 222, f 223, f 224, f 225, f 226, f 227, f 228, f 229, f 230, f 231, f 232, f 233, f 234, f 235, f 236, f 237, f 238, f 239] := by kernel_rfl
section
variable {w w1 : World} {cv seed : Value} {hbk rb pb : Nat} {sd : Int} {L : List Int} {N k : Nat}
set_option maxHeartbeats 8000000 in
set_option maxRecDepth 100000 in
/-- from the turn's bytes to the tick -/
theorem strange_leaves (who : Int) (hk : (k : Int) = pickF who 2) (b0 : -9223372036854775808 ≤ who) (b1 : who ≤ 9223372036854775807) (s0 : 0 ≤ sd) (s1 : sd ≤ 999) {x y : Value}
    (hS : SOn w1 hbk rb pb sd (startTo sd 2) false false false false (.slice none 0 0) (playV hbk sd x y 0 false)) (hC : Corners w1) (hD : w1.cell? ⟨4, 15, none⟩ = some (.int .u8 4)) (hN : N ≤ hbk) (hN2 : N ≤ w1.heap.size)
    {a : Act} (hd : a.defers = []) (hz : a.tmps.size = 240) (h2 : a.tmps.getD 2 undef = .int .i64 who) (h7 : a.tmps.getD 7 undef = .pointer (some ⟨pb, 0, none⟩)) (h10 : a.tmps.getD 10 undef = .string (turnS L)) :
    Upto Pz.prog cStr7 cStr13 (fun a w' => a.defers = [] ∧ a.tmps.size = 240 ∧ a.tmps.getD 7 undef = .pointer (some ⟨pb, 0, none⟩) ∧ a.tmps.getD 22 undef = .int .i64 k ∧ a.tmps.getD 23 undef = .int .i64 0 ∧ a.tmps.getD 24 undef = .int .i64 4 ∧
      SOn w' hbk rb pb sd (startTo sd 2) (decide (k = 0)) (decide (k = 0)) (decide (k = 1)) (decide (k = 1)) (.slice none 0 0) (playV hbk sd x y 0 false) ∧ Below N w1 w') a w1 := by
  obtain ⟨tm, df⟩ := a
  obtain rfl : df = [] := hd
  have e := tmps_lit (n := 240) (tm := tm) hz
  simp only at h2 h7 h10
  obtain ⟨f, hf⟩ : ∃ f : Nat → Value, f = fun i => tm.getD i undef := ⟨_, rfl⟩
  have f2 : f 2 = .int .i64 who := by rw [hf]; exact h2
  have f7 : f 7 = .pointer (some ⟨pb, 0, none⟩) := by rw [hf]; exact h7
  have f10 : f 10 = .string (turnS L) := by rw [hf]; exact h10
  rw [← hf, lit240] at e
  subst e
  clear hf hz h2 h7 h10
  have r2 := pickF_range who 2 (by omega)
  have hk2 : k < 2 := by omega
  have HKp : Hid (∀ W, Calls Pz.prog 25 #[.int .i64 who, .int .i64 2] W fun e w' => e = .returned (.int .i64 k) ∧ w' = W) := fun W => by rw [hk]; exact kpick_any who 2 W b0 b1 (by omega) (by omega)
  have HNm : Hid (∀ W, Calls Pz.prog 27 #[.int .i64 k] W fun e w' => e = .returned (.string ⟨#[(97 + k).toUInt8]⟩) ∧ w' = W) := fun W => kname_any k W (by omega)
  have hDl := cell_lt hD
  have HFo : Hid (∀ (W : World) (s : ByteArray), Below w1.heap.size w1 W → s.size ≤ 1000 → foldF sd 2 s = (bytesF (doF (startTo sd 2) []), hash16 (bytesF (doF (startTo sd 2) [])), 0) → Calls Pz.prog 17 #[.int .i64 sd, .int .i64 2, .string s] W fun e w' => e = .returned (.tuple #[.string (bytesF (doF (startTo sd 2) [])), .string (hash16 (bytesF (doF (startTo sd 2) []))), .int .i64 0]) ∧ w'.cell? ⟨pb, 2, none⟩ = some (.int .i64 sd) ∧ Hid (Below w1.heap.size w1 w')) := fun W s hW hs he => by
    refine (PFold_any sd 2 s W (by omega) (Corners.below hC hW) ((hW.cell hDl).trans hD)).mono fun e w' ⟨hf, hb⟩ => ?_
    rw [he] at hf
    unfold foldSaid at hf
    dsimp only at hf
    have hb' := hW.trans (hb.mono hW.size)
    exact ⟨hf, (hS.below hb').play.cell rfl, hb'⟩
  have HZ0 : Hid (foldF sd 2 ⟨#[0]⟩ = (bytesF (doF (startTo sd 2) []), hash16 (bytesF (doF (startTo sd 2) [])), 0)) := by
    have h := fold_empty sd s0 s1
    rw [show ((2 : Nat) : Int) = 2 from rfl] at h
    exact h
  have HZ1 : Hid (foldF sd 2 (turnS L) = (bytesF (doF (startTo sd 2) []), hash16 (bytesF (doF (startTo sd 2) [])), 0)) := by
    have h := fold_strange sd L s0 s1
    rw [show ((2 : Nat) : Int) = 2 from rfl] at h
    exact h
  have hts : (turnS L).size ≤ 1000 := by have := turnS_size L; have := (nS_le L).1; omega
  have p2 : w1.cell? ⟨pb, 2, none⟩ = some (.int .i64 sd) := hS.play.cell rfl
  have HS := (show Hid _ from hS)
  have HB1 : Hid (Below w1.heap.size w1 w1) := Below.refl _ _
  have HL1 : Hid (∀ W, Below w1.heap.size w1 W → Calls Pz.prog 26 #[.pointer (some ⟨hbk, 0, none⟩), .int .i64 0, .string ⟨#[(97 + k).toUInt8]⟩] W fun e w' => e = .returned (.int .i64 0) ∧ (w'.cell? ⟨pb, 0, none⟩ = some (.pointer (some ⟨hbk, 0, none⟩)) ∧ w'.cell? ⟨pb, 1, none⟩ = some (.int .i64 0)) ∧ Hid (SOn w' hbk rb pb sd (startTo sd 2) (decide (k = 0)) (decide (k = 0)) (decide (k = 1)) (decide (k = 1)) (.slice none 0 0) (playV hbk sd x y 0 false) ∧ Below N w1 w')) := fun W hW => by
    refine (sleave (hS.below hW) (begun_goes sd) k hk2 hN).mono fun e w' ⟨he, hs, hb⟩ => ?_
    exact ⟨he, ⟨hs.play.cell rfl, hs.play.cell rfl⟩, hs, (hW.mono hN2).trans hb⟩
  have HL2 : Hid (∀ W, SOn W hbk rb pb sd (startTo sd 2) (decide (k = 0)) (decide (k = 0)) (decide (k = 1)) (decide (k = 1)) (.slice none 0 0) (playV hbk sd x y 0 false) → Below N w1 W → Calls Pz.prog 26 #[.pointer (some ⟨hbk, 0, none⟩), .int .i64 0, .string ⟨#[(97 + k).toUInt8]⟩] W fun e w' => e = .returned (.int .i64 4) ∧ (w'.cell? ⟨pb, 0, none⟩ = some (.pointer (some ⟨hbk, 0, none⟩)) ∧ w'.cell? ⟨pb, 1, none⟩ = some (.int .i64 0)) ∧ Hid (SOn w' hbk rb pb sd (startTo sd 2) (decide (k = 0)) (decide (k = 0)) (decide (k = 1)) (decide (k = 1)) (.slice none 0 0) (playV hbk sd x y 0 false) ∧ Below N w1 w')) := fun W hs hW => by
    refine (sagain k hk2 hs (begun_goes sd)).mono fun e w' ⟨he, hb⟩ => ?_
    have hs' := hs.below hb
    exact ⟨he, ⟨hs'.play.cell rfl, hs'.play.cell rfl⟩, hs', hW.trans (hb.mono (Nat.le_trans hN2 hW.size))⟩
  clear hS hC hD hDl hk r2
  generalize bytesF (doF (startTo sd 2) []) = bt at *
  generalize hash16 bt = ht at *
  generalize (⟨#[(97 + k).toUInt8]⟩ : ByteArray) = nm at *
  generalize turnS L = ts at *
  simp only [cStr7, cStr, after, Tryz.f10, Option.getD, f2, f7, f10]
  apply Upto.seq_k; intro _ _
  go_wp2_with (go_at_call 17; refine Calls.mono (HFo.out _ _ HB1.out (by decide) HZ0.out) ?_; rintro e w2 ⟨rfl, p2', hb2⟩)
  apply Upto.seq_k; intro _ _
  go_wp2_with (go_at_call 17; refine Calls.mono (HFo.out _ _ hb2.out hts HZ1.out) ?_; rintro e w3 ⟨rfl, p3', hb3⟩)
  apply Upto.seq_k; intro _ _
  go_wp2
  apply Upto.seq_k; intro _ _
  go_wp2_with (go_at_call 25; refine Calls.mono (HKp.out _) ?_; rintro e w' ⟨rfl, hx'⟩; rw [hx']; clear hx' w')
  have q0 : w3.cell? ⟨pb, 0, none⟩ = some (.pointer (some ⟨hbk, 0, none⟩)) := (SOn.play (sd := sd) (SOn.below (sd := sd) HS.out hb3.out)).cell rfl
  have q1 : w3.cell? ⟨pb, 1, none⟩ = some (.int .i64 0) := (SOn.play (sd := sd) (SOn.below (sd := sd) HS.out hb3.out)).cell rfl
  have Q3 : Hid (Below w1.heap.size w1 w3.drew) := hb3.out.drew
  apply Upto.seq_k; intro _ _
  go_region_held3 (fun w' => w'.cell? ⟨pb, 0, none⟩ = some (.pointer (some ⟨hbk, 0, none⟩)) ∧ w'.cell? ⟨pb, 1, none⟩ = some (.int .i64 0)) (first | (with_reducible assumption) | (refine ⟨?_, ?_⟩ <;> (with_reducible assumption)) | go_keep) (first | (go_at_call 27; refine Calls.mono (HNm.out _) ?_; rintro e w' ⟨rfl, rfl⟩) | (go_at_call 26; refine Calls.mono (HL1.out _ Q3.out) ?_; rintro e w4 ⟨rfl, hqs, hq⟩))
  obtain ⟨hs4, hb4⟩ := hq.out
  have HS4 := (show Hid _ from hs4)
  have HB4 := (show Hid _ from hb4)
  have Q4 : Hid (SOn w4.drew hbk rb pb sd (startTo sd 2) (decide (k = 0)) (decide (k = 0)) (decide (k = 1)) (decide (k = 1)) (.slice none 0 0) (playV hbk sd x y 0 false)) := hs4.on (Nat.le_refl _) fun _ _ => rfl
  have Q4b : Hid (Below N w1 w4.drew) := hb4.drew
  obtain ⟨q40, q41⟩ := hqs
  clear hs4 hb4 hq
  repeat go_step
  apply Upto.seq_k; intro _ _
  go_region_held3 (fun w' => w'.cell? ⟨pb, 0, none⟩ = some (.pointer (some ⟨hbk, 0, none⟩)) ∧ w'.cell? ⟨pb, 1, none⟩ = some (.int .i64 0)) (first | (with_reducible assumption) | (refine ⟨?_, ?_⟩ <;> (with_reducible assumption)) | go_keep) (first | (go_at_call 27; refine Calls.mono (HNm.out _) ?_; rintro e w' ⟨rfl, rfl⟩) | (go_at_call 26; refine Calls.mono (HL2.out _ Q4.out Q4b.out) ?_; rintro e w5 ⟨rfl, hqs, hq⟩))
  repeat go_step
  exact Upto.here (by kernel_rfl) ⟨rfl, rfl, rfl, rfl, rfl, rfl, hq.out.1, hq.out.2⟩
end
/-- where Strangers stands ahead of its tick -/
def AtTick (w : World) (sd : Int) (a : Act) (w' : World) : Prop :=
  ∃ pb hbk rb x y, ∃ k : Nat, k < 2 ∧ a.defers = [] ∧ a.tmps.size = 240 ∧ a.tmps.getD 7 undef = .pointer (some ⟨pb, 0, none⟩) ∧ a.tmps.getD 22 undef = .int .i64 k ∧ a.tmps.getD 23 undef = .int .i64 0 ∧ a.tmps.getD 24 undef = .int .i64 4 ∧ w.heap.size ≤ hbk ∧ w.heap.size ≤ pb ∧
      SOn w' hbk rb pb sd (startTo sd 2) (decide (k = 0)) (decide (k = 0)) (decide (k = 1)) (decide (k = 1)) (.slice none 0 0) (playV hbk sd x y 0 false) ∧ Below w.heap.size w w'
set_option maxHeartbeats 8000000 in
set_option maxRecDepth 100000 in
/-- STRANGERS UP TO ITS TICK -/
theorem strange_upto (seed who : Int) {cv : Value} {L : List Int} {w : World} (hN : NArg w cv L) (hL : L.length ≤ 140737488351232) (b0 : -9223372036854775808 ≤ seed) (b1 : seed ≤ 9223372036854775807) (b2 : -9223372036854775808 ≤ who) (b3 : who ≤ 9223372036854775807) (hC : Corners w) (hD : w.cell? ⟨4, 15, none⟩ = some (.int .u8 4)) :
    Upto Pz.prog cStr cStr13 (AtTick w (pickF seed 1000))
      { tmps := #[.int .i64 seed, cv, .int .i64 who] ++ Array.replicate 237 undef, defers := [] } w := by
  have r1 := pickF_range seed 1000 (by omega)
  have r2 := pickF_range who 2 (by omega)
  have HBg : Hid (Calls Pz.prog 12 #[.int .i64 seed, .int .i64 0, .int .i64 0] w (Begun2 w (pickF seed 1000) 2)) := begin_any seed 0 w b0 b1 (by omega) (by omega) hC hD
  have HAll : Hid (∀ (pb hbk rb : Nat) (w1 : World) (x28 x29 x30 x31 x32 x33 x34 x35 x36 x37 x38 : Value) (nv : Int), w.heap.size ≤ hbk → w.heap.size ≤ pb → POn w1 hbk rb pb (pickF seed 1000) 2 2 → Below w.heap.size w w1 → nv = (nS L : Int) → Upto Pz.prog cStr5 cStr13 (AtTick w (pickF seed 1000)) { tmps := #[.int .i64 seed, cv, .int .i64 who, undef, undef, undef, .bool false, .pointer (some ⟨pb, 0, none⟩), .bool true, .int .i64 nv, undef, undef, undef, undef, undef, undef, undef, undef, undef, undef, undef, undef, undef, undef, undef, undef, undef, undef, x28, x29, x30, x31, x32, x33, x34, x35, x36, x37, x38, undef, undef, undef, undef, undef, undef, undef, undef, undef, undef, undef, undef, undef, undef, undef, undef, undef, undef, undef, undef, undef, undef, undef, undef, undef, undef, undef, undef, undef, undef, undef, undef, undef, undef, undef, undef, undef, undef, undef, undef, undef, undef, undef, undef, undef, undef, undef, undef, undef, undef, undef, undef, undef, undef, undef, undef, undef, undef, undef, undef, undef, undef, undef, undef, undef, undef, undef, undef, undef, undef, undef, undef, undef, undef, undef, undef, undef, undef, undef, undef, undef, undef, undef, undef, undef, undef, undef, undef, undef, undef, undef, undef, undef, undef, undef, undef, undef, undef, undef, undef, undef, undef, undef, undef, undef, undef, undef, undef, undef, undef, undef, undef, undef, undef, undef, undef, undef, undef, undef, undef, undef, undef, undef, undef, undef, undef, undef, undef, undef, undef, undef, undef, undef, undef, undef, undef, undef, undef, undef, undef, undef, undef, undef, undef, undef, undef, undef, undef, undef, undef, undef, undef, undef, undef, undef, undef, undef, undef, undef, undef, undef, undef, undef, undef, undef, undef, undef, undef, undef, undef, undef, undef, undef, undef, undef, undef, undef, undef, undef, undef, undef, undef, undef, undef, undef, undef, undef, undef, undef, undef, undef, undef, undef, undef, undef, undef, undef, undef, undef, undef, undef], defers := [] } w1) := fun pb hbk rb w1 x28 x29 x30 x31 x32 x33 x34 x35 x36 x37 x38 nv l1 l2 hP hb hnv => by
    have hDl := cell_lt hD
    refine (strange_loop (who := .int .i64 who) (L := L) (hN.on hb.size fun a v h => (hb.cell (cell_lt h)).trans h) hL hnv).trans ?_
    rintro a w2 ⟨ha, hz, h2, h7, h10, hb2⟩
    obtain ⟨x, y, hS⟩ := hP.son
    have hb02 : Below w.heap.size w w2 := hb.trans (hb2.mono hb.size)
    obtain ⟨k, hk⟩ : ∃ k : Nat, (k : Int) = pickF who 2 := ⟨(pickF who 2).toNat, by omega⟩
    refine (strange_leaves (L := L) (N := w.heap.size) who hk b2 b3 r1.1 (by omega) (hS.below hb2) (Corners.below hC hb02) ((hb02.cell hDl).trans hD) l1 hb02.size ha hz h2 h7 h10).mono ?_
    rintro a' w3 ⟨h1, h2, h3, h4, h5, h6, h8, h9⟩
    exact ⟨pb, hbk, rb, x, y, k, by omega, h1, h2, h3, h4, h5, h6, l1, l2, h8, hb02.trans h9⟩
  have hnL : nS L = if 36 < L.length then 36 else L.length := rfl
  obtain ⟨ca, ccap, ecv, _⟩ := hN
  have ecv : cv = .slice ca L.length ccap := ecv
  clear hC hD r1 r2 b0 b1 b2 b3
  generalize pickF seed 1000 = sd at *
  simp only [cStr, Tryz.f10, Option.getD, List.size_toArray, List.length_cons, List.length_nil, Nat.reduceAdd, Nat.reduceSub, Array.replicate_succ, Array.replicate_zero, List.push_toArray, List.append_toArray, List.nil_append, List.cons_append]
  subst ecv
  apply Upto.seq_k; intro _ _
  go_wp2
  apply Upto.seq_k; intro _ _
  go_wp2_with (go_at_call 12; refine Calls.mono HBg.out ?_; rintro e w1 ⟨pb, hbk, rb, rfl, l1, l2, l3, -, -, -, hP, hb⟩)
  have HP := (show Hid _ from hP)
  have HB := (show Hid _ from hb)
  clear hP hb
  apply Upto.seq_k; intro _ _
  go_wp2
  apply Upto.seq_k; intro _ _
  go_wp2
  by_cases h36 : 36 < L.length
  · have h36i : (36 : Int) < L.length := by omega
    apply Upto.seq_k; intro _ _
    go_wp2
    exact Upto.code (x' := cStr5) (by kernel_rfl) (HAll.out pb hbk rb w1 _ _ _ _ _ _ _ _ _ _ _ 36 l1 l3 HP.out HB.out (by rw [hnL, if_pos h36]; rfl))
  · have h36i : (L.length : Int) ≤ 36 := by omega
    apply Upto.seq_k; intro _ _
    go_wp2
    exact Upto.code (x' := cStr5) (by kernel_rfl) (HAll.out pb hbk rb w1 _ _ _ _ _ _ _ _ _ _ _ (L.length : Int) l1 l3 HP.out HB.out (by rw [hnL, if_neg h36]))
end Go.Proofs.YtdianedehhecoaaGreatDoor

/- Play.tick behind Host.Tick, and Strangers behind its tick: alone. -/
namespace Go.Proofs.YtdianedehhecoaaGreatDoor
open Go.RowKit
set_option linter.unusedVariables false
set_option linter.unusedSimpArgs false

noncomputable def cTick : Code := (Tryz.f14.body).getD .skip
theorem lit70 (f : Nat → Value) : ((List.range 70).map f).toArray = #[f 0, f 1, f 2, f 3, f 4, f 5, f 6, f 7, f 8, f 9, f 10, f 11, f 12, f 13, f 14, f 15, f 16, f 17, f 18, f 19, f 20, f 21, f 22, f 23, f 24, f 25, f 26, f 27, f 28, f 29, f 30, f 31, f 32, f 33, f 34, f 35, f 36, f 37, f 38, f 39, f 40, f 41, f 42, f 43, f 44, f 45, f 46, f 47, f 48, f 49, f 50, f 51, f 52, f 53, f 54, f 55, f 56, f 57, f 58, f 59, f 60, f 61, f 62, f 63, f 64, f 65, f 66, f 67, f 68, f 69] := by kernel_rfl
section
variable {W wd : World} {hbk rb pb vb N : Nat} {sd wn : Int} {S : RS} {f0 l0 f1 l1 : Bool} {sv x y : Value} {tm : Array Value} {Q : Exit → Act → World → Prop}
theorem SOn.plays {t : Int} {o : Bool} (h : SOn W hbk rb pb sd S f0 l0 f1 l1 sv (playV hbk sd x y 0 false)) : SOn ((W.setCell ⟨pb, 10, none⟩ (.int .i64 t)).setCell ⟨pb, 11, none⟩ (.bool o)) hbk rb pb sd S f0 l0 f1 l1 sv (playV hbk sd x y t o) := by
  obtain ⟨lo, mb, sb, tb, p0, p1, wl, wt, wc, hv, gv, uv, bs, g, n, hs, h1, h2, h3, h4, h5, h6, h7, h8⟩ := h
  have hb : pb ≠ hbk := fun e => by
    have h7' := h7.host
    rw [← e] at h7'
    have := (h8.cell (i := 1) rfl).symm.trans h7'
    cases this
  have hr : pb ≠ rb := fun e => by
    have h7' := h7.room
    have h6' := h6.low mb (by simp)
    rw [← e] at h7'
    have := (h8.cell (i := 0) rfl).symm.trans h7'
    injection this with this
    injection this with this
    injection this with this
    injection this with this
    omega
  have hk : ∀ j, j ≠ pb → ((W.setCell ⟨pb, 10, none⟩ (.int .i64 t)).setCell ⟨pb, 11, none⟩ (.bool o)).heap[j]? = W.heap[j]? := fun j hj => by
    rw [Below.heap_setCell _ ⟨pb, 11, none⟩ _ j hj, Below.heap_setCell _ ⟨pb, 10, none⟩ _ j hj]
  exact ⟨lo, mb, sb, tb, p0, p1, wl, wt, wc, hv, gv, uv, bs, g, n, hs, h1, h2, h3, by rw [World.heap_setCell_size, World.heap_setCell_size]; exact h4, h5, h6.on (fun j hj _ => hk j (by omega)), h7.on (hk _ (Ne.symm hb)) (hk _ (Ne.symm hr)), (h8.set 10 _).set 11 _⟩
set_option maxHeartbeats 4000000 in
set_option maxRecDepth 20000 in
/-- from the view on -/
theorem tick_tail (hz : tm.size = 70) (h0 : tm.getD 0 undef = .pointer (some ⟨pb, 0, none⟩)) (h3 : tm.getD 3 undef = .int .i64 0) (h4 : tm.getD 4 undef = .pointer (some ⟨vb, 0, none⟩)) (h5 : tm.getD 5 undef = .int .i64 0)
    (HV : Hid (BlkAt wd vb [.int .i64 3, .bool false, .int .i64 2, .int .i64 1, .int .i64 0, .int .i64 wn] 46)) (hvp : vb ≠ pb) (HP : Hid (BlkAt wd pb (playV hbk sd x y 0 false) 37))
    (HQQ : Hid (∀ a : Act, a.defers = [] → a.tmps.getD 2 undef = .bool true → Q .ret a ((wd.setCell ⟨pb, 10, none⟩ (.int .i64 1)).setCell ⟨pb, 11, none⟩ (.bool true)))) : Code.wp Pz.prog (after 3 cTick) Q ⟨tm, []⟩ wd := by
  have e := tmps_lit (n := 70) (tm := tm) hz
  obtain ⟨f, hf⟩ : ∃ f : Nat → Value, f = fun i => tm.getD i undef := ⟨_, rfl⟩
  have e0 : f 0 = .pointer (some ⟨pb, 0, none⟩) := by rw [hf]; exact h0
  have e3 : f 3 = .int .i64 0 := by rw [hf]; exact h3
  have e4 : f 4 = .pointer (some ⟨vb, 0, none⟩) := by rw [hf]; exact h4
  have e5 : f 5 = .int .i64 0 := by rw [hf]; exact h5
  rw [← hf, lit70] at e
  subst e
  clear hf hz h0 h3 h4 h5
  have hv : BlkAt wd vb [.int .i64 3, .bool false, .int .i64 2, .int .i64 1, .int .i64 0, .int .i64 wn] 46 := HV.out
  have hp : BlkAt wd pb (playV hbk sd x y 0 false) 37 := HP.out
  have p10 : wd.cell? ⟨pb, 10, none⟩ = some (.int .i64 0) := hp.cell rfl
  have p11 : wd.cell? ⟨pb, 11, none⟩ = some (.bool false) := hp.cell rfl
  have z10 := hp.free 10
  have z11 := hp.free 11
  have v0 : wd.cell? ⟨vb, 0, none⟩ = some (.int .i64 3) := hv.cell rfl
  have v3 : wd.cell? ⟨vb, 3, none⟩ = some (.int .i64 1) := hv.cell rfl
  clear hv hp
  simp only [cTick, after, Tryz.f14, Option.getD, e0, e3, e4, e5]
  clear e0 e3 e4 e5
  go_wp2
  exact HQQ.out _ rfl rfl
/-- what is so when tick returns -/
def TickQ (W : World) (N hbk rb pb : Nat) (sd : Int) (S : RS) (f0 l0 f1 l1 : Bool) (sv x y : Value) (e : Exit) (a : Act) (w' : World) : Prop :=
  e = .ret ∧ a.defers = [] ∧ a.tmps.getD 2 undef = .bool true ∧ SOn w' hbk rb pb sd S f0 l0 f1 l1 sv (playV hbk sd x y 1 true) ∧ Below N W w'
set_option maxHeartbeats 8000000 in
set_option maxRecDepth 20000 in
theorem tick_rest (hS : SOn W hbk rb pb sd S f0 l0 f1 l1 sv (playV hbk sd x y 0 false)) (hov : overB S = true) (ht : S.turn = 1) (hN : N ≤ pb) (hz : tm.size = 70) (h0 : tm.getD 0 undef = .pointer (some ⟨pb, 0, none⟩)) (h3 : tm.getD 3 undef = .int .i64 0) :
    Code.wp Pz.prog (after 2 cTick) (TickQ W N hbk rb pb sd S f0 l0 f1 l1 sv x y) ⟨tm, []⟩ W := by
  obtain ⟨wn, hwn⟩ : ∃ wn, winP (toPS S).units = wn := ⟨_, rfl⟩
  have e := tmps_lit (n := 70) (tm := tm) hz
  obtain ⟨f, hf⟩ : ∃ f : Nat → Value, f = fun i => tm.getD i undef := ⟨_, rfl⟩
  have e0 : f 0 = .pointer (some ⟨pb, 0, none⟩) := by rw [hf]; exact h0
  have e3 : f 3 = .int .i64 0 := by rw [hf]; exact h3
  rw [← hf, lit70] at e
  subst e
  clear hf hz h0 h3
  have HB0 : Hid (Below W.heap.size W (W.alloc (.cells #[.int .i64 0, .bool false, .int .i64 0, .int .i64 0, .int .i64 0, .int .i64 0] 46)).drew) := ((Below.refl _ _).alloc (Nat.le_refl _) _).drew
  have HN0 : Hid (BlkAt (W.alloc (.cells #[.int .i64 0, .bool false, .int .i64 0, .int .i64 0, .int .i64 0, .int .i64 0] 46)).drew W.heap.size viewZ 46) := BlkAt.new W viewZ _
  have HL0 : Hid (∀ W', Below W.heap.size W W' → Calls Pz.prog 20 #[.pointer (some ⟨hbk, 0, none⟩), .int .i64 0] W' fun e w' => e = .returned (.tuple #[.agg #[.int .i64 3, .bool false, .int .i64 2, .int .i64 1, .int .i64 0, .int .i64 wn], .int .i64 0]) ∧ (w'.cell? ⟨pb, 0, none⟩ = some (.pointer (some ⟨hbk, 0, none⟩)) ∧ w'.cell? ⟨pb, 1, none⟩ = some (.int .i64 0)) ∧ Hid (Below W.heap.size W w')) := fun W' hW => by
    have H := slook (hS.below hW)
    rw [hov, ht, if_pos rfl, hwn] at H
    refine H.mono fun e w' ⟨he, hb⟩ => ?_
    have hb' := hW.trans (hb.mono hW.size)
    exact ⟨he, ⟨(hS.below hb').play.cell rfl, (hS.below hb').play.cell rfl⟩, hb'⟩
  have HL1 : Hid (∀ W' vb, Below W.heap.size W W' → BlkAt W' vb viewZ 46 → Calls Pz.prog 20 #[.pointer (some ⟨hbk, 0, none⟩), .int .i64 0] W' fun e w' => e = .returned (.tuple #[.agg #[.int .i64 3, .bool false, .int .i64 2, .int .i64 1, .int .i64 0, .int .i64 wn], .int .i64 0]) ∧ (w'.cell? ⟨pb, 0, none⟩ = some (.pointer (some ⟨hbk, 0, none⟩)) ∧ w'.cell? ⟨pb, 1, none⟩ = some (.int .i64 0)) ∧ Hid (BlkAt w' vb viewZ 46) ∧ ViewAt w' vb ∧ Hid (Below W.heap.size W w')) := fun W' vb hW hv => by
    have H := slook (hS.below hW)
    rw [hov, ht, if_pos rfl, hwn] at H
    refine H.mono fun e w' ⟨he, hb⟩ => ?_
    have hb' := hW.trans (hb.mono hW.size)
    have hv' := hv.same (hb.block _ hv.lt)
    exact ⟨he, ⟨(hS.below hb').play.cell rfl, (hS.below hb').play.cell rfl⟩, hv', hv'.view, hb'⟩
  have q0 : W.cell? ⟨pb, 0, none⟩ = some (.pointer (some ⟨hbk, 0, none⟩)) := hS.play.cell rfl
  have q1 : W.cell? ⟨pb, 1, none⟩ = some (.int .i64 0) := hS.play.cell rfl
  have d0 : W.drew.cell? ⟨pb, 0, none⟩ = some (.pointer (some ⟨hbk, 0, none⟩)) := q0
  have d1 : W.drew.cell? ⟨pb, 1, none⟩ = some (.int .i64 0) := q1
  have hpl := hS.play.lt
  have dl : pb < W.drew.heap.size := hpl
  have HS := (show Hid _ from hS)
  clear hov ht hwn hS
  have HQQ : Hid (∀ wd, Below W.heap.size W wd → ∀ a : Act, a.defers = [] → a.tmps.getD 2 undef = .bool true → TickQ W N hbk rb pb sd S f0 l0 f1 l1 sv x y .ret a ((wd.setCell ⟨pb, 10, none⟩ (.int .i64 1)).setCell ⟨pb, 11, none⟩ (.bool true))) := fun wd hb a h1 h2 =>
    ⟨rfl, h1, h2, (SOn.below (sd := sd) HS.out hb).plays, ((hb.mono (by omega)).setCell (p := ⟨pb, 10, none⟩) hN _).setCell (p := ⟨pb, 11, none⟩) hN _⟩
  generalize TickQ W N hbk rb pb sd S f0 l0 f1 l1 sv x y = QQ at *
  simp only [cTick, after, Tryz.f14, Option.getD, e0, e3]
  clear e0 e3
  apply wp_seq_k; intro _ _
  go_region_held3 (fun w' => w'.cell? ⟨pb, 0, none⟩ = some (.pointer (some ⟨hbk, 0, none⟩)) ∧ w'.cell? ⟨pb, 1, none⟩ = some (.int .i64 0)) (first | (with_reducible assumption) | (refine ⟨?_, ?_⟩ <;> first | (with_reducible assumption) | (rw [World.cell?_alloc_past]; (with_reducible assumption); first | exact dl | (with_reducible assumption)) | (rw [cell_set6 _ _ _ _ _ _ _ _ _ _ (by omega)]; (with_reducible assumption))) | go_keep) (first
    | (go_at_call 20; refine Calls.mono (HL0.out _ (by with_reducible exact (Below.refl _ _).drew)) ?_; rintro e w2 ⟨rfl, ⟨p0', p1'⟩, hq⟩; have pl' : pb < w2.heap.size := Nat.lt_of_lt_of_le hpl hq.out.size)
    | (go_at_call 20; refine Calls.mono (HL1.out _ _ (by with_reducible exact HB0.out) (by with_reducible exact HN0.out)) ?_; rintro e w2 ⟨rfl, ⟨p0', p1'⟩, hv, ⟨v0, v1, v2, v3, v4, v5, z0, z1, z2, z3, z4, z5, vl⟩, hq⟩; have pl' : pb < w2.heap.size := Nat.lt_of_lt_of_le hpl hq.out.size))
  all_goals
    first
    | (have hV : BlkAt (w2.alloc (.cells #[.int .i64 3, .bool false, .int .i64 2, .int .i64 1, .int .i64 0, .int .i64 wn] 46)) w2.heap.size [.int .i64 3, .bool false, .int .i64 2, .int .i64 1, .int .i64 0, .int .i64 wn] 46 := BlkAt.new w2 [.int .i64 3, .bool false, .int .i64 2, .int .i64 1, .int .i64 0, .int .i64 wn] _
       have hB : Below W.heap.size W (w2.alloc (.cells #[.int .i64 3, .bool false, .int .i64 2, .int .i64 1, .int .i64 0, .int .i64 wn] 46)) := hq.out.alloc hq.out.size _
       obtain ⟨wd, hwd⟩ : ∃ x, x = (w2.alloc (.cells #[.int .i64 3, .bool false, .int .i64 2, .int .i64 1, .int .i64 0, .int .i64 wn] 46)) := ⟨_, rfl⟩
       obtain ⟨vb, hvd⟩ : ∃ x, x = w2.heap.size := ⟨_, rfl⟩
       rw [← hwd] at hV hB ⊢
       rw [← hvd] at hV ⊢
       have hvb : W.heap.size ≤ vb := Nat.le_trans hq.out.size (Nat.le_of_eq hvd.symm))
    | (have g0 : BlkAt w2 W.heap.size viewZ 46 := (by with_reducible exact hv.out)
       have hV : BlkAt ((((((w2.setCell ⟨W.heap.size, 0, none⟩ (.int .i64 3)).setCell ⟨W.heap.size, 1, none⟩ (.bool false)).setCell ⟨W.heap.size, 2, none⟩ (.int .i64 2)).setCell ⟨W.heap.size, 3, none⟩ (.int .i64 1)).setCell ⟨W.heap.size, 4, none⟩ (.int .i64 0)).setCell ⟨W.heap.size, 5, none⟩ (.int .i64 wn)) W.heap.size [.int .i64 3, .bool false, .int .i64 2, .int .i64 1, .int .i64 0, .int .i64 wn] 46 := (((((g0.set 0 _).set 1 _).set 2 _).set 3 _).set 4 _).set 5 _
       have hB : Below W.heap.size W ((((((w2.setCell ⟨W.heap.size, 0, none⟩ (.int .i64 3)).setCell ⟨W.heap.size, 1, none⟩ (.bool false)).setCell ⟨W.heap.size, 2, none⟩ (.int .i64 2)).setCell ⟨W.heap.size, 3, none⟩ (.int .i64 1)).setCell ⟨W.heap.size, 4, none⟩ (.int .i64 0)).setCell ⟨W.heap.size, 5, none⟩ (.int .i64 wn)) := ((((((hq.out.setCell (Nat.le_refl _) _).setCell (Nat.le_refl _) _).setCell (Nat.le_refl _) _).setCell (Nat.le_refl _) _).setCell (Nat.le_refl _) _).setCell (Nat.le_refl _) _)
       obtain ⟨wd, hwd⟩ : ∃ x, x = ((((((w2.setCell ⟨W.heap.size, 0, none⟩ (.int .i64 3)).setCell ⟨W.heap.size, 1, none⟩ (.bool false)).setCell ⟨W.heap.size, 2, none⟩ (.int .i64 2)).setCell ⟨W.heap.size, 3, none⟩ (.int .i64 1)).setCell ⟨W.heap.size, 4, none⟩ (.int .i64 0)).setCell ⟨W.heap.size, 5, none⟩ (.int .i64 wn)) := ⟨_, rfl⟩
       obtain ⟨vb, hvd⟩ : ∃ x, x = W.heap.size := ⟨_, rfl⟩
       rw [← hwd] at hV hB ⊢
       rw [← hvd] at hV ⊢
       have hvb : W.heap.size ≤ vb := Nat.le_of_eq hvd.symm)
    have HP : Hid (BlkAt wd pb (playV hbk sd x y 0 false) 37) := SOn.play (sd := sd) (SOn.below (sd := sd) HS.out hB)
    have hvp : vb ≠ pb := by omega
    first
    | exact tick_tail (by rfl) (by rfl) (by rfl) (by rfl) (by rfl) hV hvp HP (HQQ.out wd hB)
    | (go_step; exact tick_tail (by rfl) (by rfl) (by rfl) (by rfl) (by rfl) hV hvp HP (HQQ.out wd hB))
    | (go_step; go_step; exact tick_tail (by rfl) (by rfl) (by rfl) (by rfl) (by rfl) hV hvp HP (HQQ.out wd hB))
/-- what is so when Strangers returns -/
def StrQ (W : World) (N : Nat) (e : Exit) (a : Act) (w' : World) : Prop := e = .ret ∧ a.defers = [] ∧ a.tmps.getD 6 undef = .bool true ∧ Below N W w'
set_option maxHeartbeats 8000000 in
set_option maxRecDepth 20000 in
theorem strange_tail {k : Nat} (hk : k < 2) (hz : tm.size = 240) (h22 : tm.getD 22 undef = .int .i64 k) (h23 : tm.getD 23 undef = .int .i64 0) (h24 : tm.getD 24 undef = .int .i64 4) (h25 : tm.getD 25 undef = .bool true) (h26 : tm.getD 26 undef = .pointer (some ⟨vb, 0, none⟩)) (h27 : tm.getD 27 undef = .int .i64 0)
    (HV : Hid (BlkAt wd vb [.int .i64 3, .bool false, .int .i64 2, .int .i64 1, .int .i64 0, .int .i64 (1 - (k : Int))] 46))
    (HQQ : Hid (∀ a : Act, a.defers = [] → a.tmps.getD 6 undef = .bool true → Q .ret a wd)) : Code.wp Pz.prog (after 15 cStr) Q ⟨tm, []⟩ wd := by
  have e := tmps_lit (n := 240) (tm := tm) hz
  obtain ⟨f, hf⟩ : ∃ f : Nat → Value, f = fun i => tm.getD i undef := ⟨_, rfl⟩
  have e22 : f 22 = .int .i64 k := by rw [hf]; exact h22
  have e23 : f 23 = .int .i64 0 := by rw [hf]; exact h23
  have e24 : f 24 = .int .i64 4 := by rw [hf]; exact h24
  have e25 : f 25 = .bool true := by rw [hf]; exact h25
  have e26 : f 26 = .pointer (some ⟨vb, 0, none⟩) := by rw [hf]; exact h26
  have e27 : f 27 = .int .i64 0 := by rw [hf]; exact h27
  rw [← hf, lit240] at e
  subst e
  clear hf hz h22 h23 h24 h25 h26 h27
  have hv : BlkAt wd vb [.int .i64 3, .bool false, .int .i64 2, .int .i64 1, .int .i64 0, .int .i64 (1 - (k : Int))] 46 := HV.out
  have v0 := hv.cell (i := 0) rfl
  have v1 := hv.cell (i := 1) rfl
  have v2 := hv.cell (i := 2) rfl
  have v3 := hv.cell (i := 3) rfl
  have v4 := hv.cell (i := 4) rfl
  have v5 := hv.cell (i := 5) rfl
  have vl := hv.lt
  clear hv
  have hve := viewEq 3 2 1 0 (1 - (k : Int)) false
  have hvg := viewGuard
  have hw1 : IntKind.i64.wrap (1 - (k : Int)) = 1 - (k : Int) := by simp [IntKind.wrap, IntKind.bits, IntKind.signed]; omega
  simp only [cStr, after, Tryz.f10, Option.getD, e22, e23, e24, e25, e26, e27]
  clear e22 e23 e24 e25 e26 e27
  go_wp2
  exact HQQ.out _ rfl rfl
set_option maxHeartbeats 8000000 in
set_option maxRecDepth 20000 in
theorem strange_rest {k : Nat} (hk : k < 2) (hS : SOn W hbk rb pb sd S f0 l0 f1 l1 sv (playV hbk sd x y 1 true)) (hov : overB S = true) (ht : S.turn = 1) (hwn : winP (toPS S).units = 1 - (k : Int)) (hN : N ≤ W.heap.size) (hz : tm.size = 240) (h7 : tm.getD 7 undef = .pointer (some ⟨pb, 0, none⟩))
    (h22 : tm.getD 22 undef = .int .i64 k) (h23 : tm.getD 23 undef = .int .i64 0) (h24 : tm.getD 24 undef = .int .i64 4) (h25 : tm.getD 25 undef = .bool true) :
    Code.wp Pz.prog (after 14 cStr) (StrQ W N) ⟨tm, []⟩ W := by
  have e := tmps_lit (n := 240) (tm := tm) hz
  obtain ⟨f, hf⟩ : ∃ f : Nat → Value, f = fun i => tm.getD i undef := ⟨_, rfl⟩
  have e7 : f 7 = .pointer (some ⟨pb, 0, none⟩) := by rw [hf]; exact h7
  have e22 : f 22 = .int .i64 k := by rw [hf]; exact h22
  have e23 : f 23 = .int .i64 0 := by rw [hf]; exact h23
  have e24 : f 24 = .int .i64 4 := by rw [hf]; exact h24
  have e25 : f 25 = .bool true := by rw [hf]; exact h25
  rw [← hf, lit240] at e
  subst e
  clear hf hz h7 h22 h23 h24 h25
  have HB0 : Hid (Below W.heap.size W (W.alloc (.cells #[.int .i64 0, .bool false, .int .i64 0, .int .i64 0, .int .i64 0, .int .i64 0] 46)).drew) := ((Below.refl _ _).alloc (Nat.le_refl _) _).drew
  have HN0 : Hid (BlkAt (W.alloc (.cells #[.int .i64 0, .bool false, .int .i64 0, .int .i64 0, .int .i64 0, .int .i64 0] 46)).drew W.heap.size viewZ 46) := BlkAt.new W viewZ _
  have HL0 : Hid (∀ W', Below W.heap.size W W' → Calls Pz.prog 20 #[.pointer (some ⟨hbk, 0, none⟩), .int .i64 0] W' fun e w' => e = .returned (.tuple #[.agg #[.int .i64 3, .bool false, .int .i64 2, .int .i64 1, .int .i64 0, .int .i64 (1 - (k : Int))], .int .i64 0]) ∧ (w'.cell? ⟨pb, 0, none⟩ = some (.pointer (some ⟨hbk, 0, none⟩)) ∧ w'.cell? ⟨pb, 1, none⟩ = some (.int .i64 0)) ∧ Hid (Below W.heap.size W w')) := fun W' hW => by
    have H := slook (hS.below hW)
    rw [hov, ht, if_pos rfl, hwn] at H
    refine H.mono fun e w' ⟨he, hb⟩ => ?_
    have hb' := hW.trans (hb.mono hW.size)
    exact ⟨he, ⟨(hS.below hb').play.cell rfl, (hS.below hb').play.cell rfl⟩, hb'⟩
  have HL1 : Hid (∀ W' vb, Below W.heap.size W W' → BlkAt W' vb viewZ 46 → Calls Pz.prog 20 #[.pointer (some ⟨hbk, 0, none⟩), .int .i64 0] W' fun e w' => e = .returned (.tuple #[.agg #[.int .i64 3, .bool false, .int .i64 2, .int .i64 1, .int .i64 0, .int .i64 (1 - (k : Int))], .int .i64 0]) ∧ (w'.cell? ⟨pb, 0, none⟩ = some (.pointer (some ⟨hbk, 0, none⟩)) ∧ w'.cell? ⟨pb, 1, none⟩ = some (.int .i64 0)) ∧ Hid (BlkAt w' vb viewZ 46) ∧ ViewAt w' vb ∧ Hid (Below W.heap.size W w')) := fun W' vb hW hv => by
    have H := slook (hS.below hW)
    rw [hov, ht, if_pos rfl, hwn] at H
    refine H.mono fun e w' ⟨he, hb⟩ => ?_
    have hb' := hW.trans (hb.mono hW.size)
    have hv' := hv.same (hb.block _ hv.lt)
    exact ⟨he, ⟨(hS.below hb').play.cell rfl, (hS.below hb').play.cell rfl⟩, hv', hv'.view, hb'⟩
  have q0 : W.cell? ⟨pb, 0, none⟩ = some (.pointer (some ⟨hbk, 0, none⟩)) := hS.play.cell rfl
  have q1 : W.cell? ⟨pb, 1, none⟩ = some (.int .i64 0) := hS.play.cell rfl
  have d0 : W.drew.cell? ⟨pb, 0, none⟩ = some (.pointer (some ⟨hbk, 0, none⟩)) := q0
  have d1 : W.drew.cell? ⟨pb, 1, none⟩ = some (.int .i64 0) := q1
  have hpl := hS.play.lt
  have dl : pb < W.drew.heap.size := hpl
  have HS := (show Hid _ from hS)
  clear hov ht hwn hS
  have HQQ : Hid (∀ wd, Below W.heap.size W wd → ∀ a : Act, a.defers = [] → a.tmps.getD 6 undef = .bool true → StrQ W N .ret a wd) := fun wd hb a h1 h2 => ⟨rfl, h1, h2, hb.mono hN⟩
  generalize StrQ W N = QQ at *
  simp only [cStr, after, Tryz.f10, Option.getD, e7, e22, e23, e24, e25]
  clear e7 e22 e23 e24 e25
  apply wp_seq_k; intro _ _
  go_region_held3 (fun w' => w'.cell? ⟨pb, 0, none⟩ = some (.pointer (some ⟨hbk, 0, none⟩)) ∧ w'.cell? ⟨pb, 1, none⟩ = some (.int .i64 0)) (first | (with_reducible assumption) | (refine ⟨?_, ?_⟩ <;> first | (with_reducible assumption) | (rw [World.cell?_alloc_past]; (with_reducible assumption); first | exact dl | (with_reducible assumption)) | (rw [cell_set6 _ _ _ _ _ _ _ _ _ _ (by omega)]; (with_reducible assumption))) | go_keep) (first
    | (go_at_call 20; refine Calls.mono (HL0.out _ (by with_reducible exact (Below.refl _ _).drew)) ?_; rintro e w2 ⟨rfl, ⟨p0', p1'⟩, hq⟩; have pl' : pb < w2.heap.size := Nat.lt_of_lt_of_le hpl hq.out.size)
    | (go_at_call 20; refine Calls.mono (HL1.out _ _ (by with_reducible exact HB0.out) (by with_reducible exact HN0.out)) ?_; rintro e w2 ⟨rfl, ⟨p0', p1'⟩, hv, ⟨v0, v1, v2, v3, v4, v5, z0, z1, z2, z3, z4, z5, vl⟩, hq⟩; have pl' : pb < w2.heap.size := Nat.lt_of_lt_of_le hpl hq.out.size))
  all_goals
    first
    | (have hV : BlkAt (w2.alloc (.cells #[.int .i64 3, .bool false, .int .i64 2, .int .i64 1, .int .i64 0, .int .i64 (1 - (k : Int))] 46)) w2.heap.size [.int .i64 3, .bool false, .int .i64 2, .int .i64 1, .int .i64 0, .int .i64 (1 - (k : Int))] 46 := BlkAt.new w2 [.int .i64 3, .bool false, .int .i64 2, .int .i64 1, .int .i64 0, .int .i64 (1 - (k : Int))] _
       have hB : Below W.heap.size W (w2.alloc (.cells #[.int .i64 3, .bool false, .int .i64 2, .int .i64 1, .int .i64 0, .int .i64 (1 - (k : Int))] 46)) := hq.out.alloc hq.out.size _
       obtain ⟨wd, hwd⟩ : ∃ x, x = (w2.alloc (.cells #[.int .i64 3, .bool false, .int .i64 2, .int .i64 1, .int .i64 0, .int .i64 (1 - (k : Int))] 46)) := ⟨_, rfl⟩
       obtain ⟨vb, hvd⟩ : ∃ x, x = w2.heap.size := ⟨_, rfl⟩
       rw [← hwd] at hV hB ⊢
       rw [← hvd] at hV ⊢
       have hvb : W.heap.size ≤ vb := Nat.le_trans hq.out.size (Nat.le_of_eq hvd.symm))
    | (have g0 : BlkAt w2 W.heap.size viewZ 46 := (by with_reducible exact hv.out)
       have hV : BlkAt ((((((w2.setCell ⟨W.heap.size, 0, none⟩ (.int .i64 3)).setCell ⟨W.heap.size, 1, none⟩ (.bool false)).setCell ⟨W.heap.size, 2, none⟩ (.int .i64 2)).setCell ⟨W.heap.size, 3, none⟩ (.int .i64 1)).setCell ⟨W.heap.size, 4, none⟩ (.int .i64 0)).setCell ⟨W.heap.size, 5, none⟩ (.int .i64 (1 - (k : Int)))) W.heap.size [.int .i64 3, .bool false, .int .i64 2, .int .i64 1, .int .i64 0, .int .i64 (1 - (k : Int))] 46 := (((((g0.set 0 _).set 1 _).set 2 _).set 3 _).set 4 _).set 5 _
       have hB : Below W.heap.size W ((((((w2.setCell ⟨W.heap.size, 0, none⟩ (.int .i64 3)).setCell ⟨W.heap.size, 1, none⟩ (.bool false)).setCell ⟨W.heap.size, 2, none⟩ (.int .i64 2)).setCell ⟨W.heap.size, 3, none⟩ (.int .i64 1)).setCell ⟨W.heap.size, 4, none⟩ (.int .i64 0)).setCell ⟨W.heap.size, 5, none⟩ (.int .i64 (1 - (k : Int)))) := ((((((hq.out.setCell (Nat.le_refl _) _).setCell (Nat.le_refl _) _).setCell (Nat.le_refl _) _).setCell (Nat.le_refl _) _).setCell (Nat.le_refl _) _).setCell (Nat.le_refl _) _)
       obtain ⟨wd, hwd⟩ : ∃ x, x = ((((((w2.setCell ⟨W.heap.size, 0, none⟩ (.int .i64 3)).setCell ⟨W.heap.size, 1, none⟩ (.bool false)).setCell ⟨W.heap.size, 2, none⟩ (.int .i64 2)).setCell ⟨W.heap.size, 3, none⟩ (.int .i64 1)).setCell ⟨W.heap.size, 4, none⟩ (.int .i64 0)).setCell ⟨W.heap.size, 5, none⟩ (.int .i64 (1 - (k : Int)))) := ⟨_, rfl⟩
       obtain ⟨vb, hvd⟩ : ∃ x, x = W.heap.size := ⟨_, rfl⟩
       rw [← hwd] at hV hB ⊢
       rw [← hvd] at hV ⊢
       have hvb : W.heap.size ≤ vb := Nat.le_of_eq hvd.symm)
    first
    | exact strange_tail hk (by rfl) (by rfl) (by rfl) (by rfl) (by rfl) (by rfl) (by rfl) hV (HQQ.out wd hB)
    | (go_step; exact strange_tail hk (by rfl) (by rfl) (by rfl) (by rfl) (by rfl) (by rfl) (by rfl) hV (HQQ.out wd hB))
    | (go_step; go_step; exact strange_tail hk (by rfl) (by rfl) (by rfl) (by rfl) (by rfl) (by rfl) (by rfl) hV (HQQ.out wd hB))
end
end Go.Proofs.YtdianedehhecoaaGreatDoor
