/- The program's reading of turns: readCommand, readCommands. -/
import Derived.Test.YtdianedehhecoaaDoorRefPure
import Derived.Test.YtdianedehhecoaaDoorBase
namespace Go.Proofs.YtdianedehhecoaaDoor
open Go.RowKit
set_option linter.unusedVariables false
set_option linter.unusedSimpArgs false

set_option maxHeartbeats 4000000 in
set_option maxRecDepth 100000 in
theorem readCommand_any (s : ByteArray) (h5 : s.size = 5) (w : World) :
    Calls Tryd.prog 42 #[.string s] w fun e w' => e = .returned (.agg #[.int .i64 (byt s 0), .int .i64 (byt s 1), .int .i64 (byt s 2), .int .i64 (byt s 3), .int .i64 (byt s 4)]) ∧ Below w.heap.size w w' := by
  have g0 := byt_get s 0 (by omega)
  have g1 := byt_get s 1 (by omega)
  have g2 := byt_get s 2 (by omega)
  have g3 := byt_get s 3 (by omega)
  have g4 := byt_get s 4 (by omega)
  have r0 := byt_range s 0
  have r1 := byt_range s 1
  have r2 := byt_range s 2
  have r3 := byt_range s 3
  have r4 := byt_range s 4
  have h5i : (s.size : Int) = 5 := by omega
  have h4 : (4 : Nat) < s.size := by omega
  generalize byt s 0 = x0 at *
  generalize byt s 1 = x1 at *
  generalize byt s 2 = x2 at *
  generalize byt s 3 = x3 at *
  generalize byt s 4 = x4 at *
  go_enter Tryd.func42, Tryd.ntmps42
  go_wp2
  go_region
  go_wp2
  exact bodyPost_ret (v := .agg #[.int .i64 x0, .int .i64 x1, .int .i64 x2, .int .i64 x3, .int .i64 x4]) (by simp [results, Tryd.results42, go_sem]) rfl ⟨rfl, (((Below.refl _ _).alloc (Nat.le_refl _) _)).drew⟩

theorem infoComm : (Tryd.prog.info? 71).map (fun i => (i.zero, i.size, i.bytes)) = some (some (.agg #[.int .i64 0, .int .i64 0, .int .i64 0, .int .i64 0, .int .i64 0]), 5, 40) := by kernel_rfl
theorem infoComms : (Tryd.prog.info? 35).map (fun i => (i.zero, i.size, i.bytes)) = some (some (.slice none 0 0), 1, 24) := by kernel_rfl

/-- a slice of the program's commands that lies in blocks from N on -/
structure PTurnAt (w : World) (N : Nat) (tv : Value) (cs : List RC) : Prop where
  row : RowAt w 71 5 tv cs.length (rcCells cs)
  nil : cs = [] → tv = .slice none 0 0
  blk : ∀ k, tv.ownBlock = some k → N ≤ k
theorem PTurnAt.below {w w' : World} {N : Nat} {tv : Value} {cs : List RC} (h : PTurnAt w N tv cs) (hb : Below w.heap.size w w') : PTurnAt w' N tv cs :=
  ⟨h.row.same fun k e => hb.block k (h.row.lt e), h.nil, h.blk⟩
theorem pturn_step {wo w wa w2 : World} {M : Nat} {tv v' : Value} {cs : List RC} {c : RC} {o : Obj} (h : PTurnAt w M tv cs) (hb : Below M wo w) (hba : Below w.heap.size w wa)
    (hown : w2.ownsRow 0 71 5 v' (cs.length + 1) (rcCells cs ++ [.int .i64 c.p, .int .i64 c.un, .int .i64 c.wh, .int .i64 c.x, .int .i64 c.y])) (hg : (wa.alloc o).grownBy w2 tv.ownBlock)
    (hob : v'.ownBlock = tv.ownBlock ∨ v'.ownBlock = some (wa.heap.size + 1)) (hM : M ≤ wo.heap.size) : PTurnAt w2 M v' (cs ++ [c]) ∧ Below M wo w2 := by
  have hsz := hb.size
  have hsa := hba.size
  refine ⟨⟨?_, fun e => by simp at e, fun k e => ?_⟩, ((hb.trans (hba.mono (by omega))).alloc (by omega) _).grown hg (by simp; omega) h.blk⟩
  · have e1 : rcCells (cs ++ [c]) = rcCells cs ++ [.int .i64 c.p, .int .i64 c.un, .int .i64 c.wh, .int .i64 c.x, .int .i64 c.y] := by simp [rcCells, RC.cells]
    rw [e1, List.length_append]
    exact hown
  · rcases hob with e2 | e2
    · rw [e2] at e; exact h.blk k e
    · rw [e2] at e
      have : k = wa.heap.size + 1 := by injection e with e; exact e.symm
      omega

theorem byt_extract (s : ByteArray) (a b i : Nat) (hb : b ≤ s.size) (hi : a + i < b) : byt (s.extract a b) i = byt s (a + i) := by
  have h1 : (s.extract a b).size = b - a := by rw [ByteArray.size_extract]; omega
  have e : (s.extract a b).data.toList = (s.data.toList.drop a).take (b - a) := by simp [ByteArray.data_extract, List.extract_eq_take_drop]
  unfold byt
  rw [e]
  simp only [List.getD, List.getElem?_take, List.getElem?_drop]
  rw [if_pos (by omega)]

set_option maxHeartbeats 4000000 in
set_option maxRecDepth 100000 in
theorem readCommands_any (s : ByteArray) (n : Nat) (hn : n ≤ 36) (hs : s.size = 5 * n) (w : World) :
    Calls Tryd.prog 21 #[.string s] w fun e w' => (∃ tv, e = .returned tv ∧ PTurnAt w' w.heap.size tv (cmdsAt s 0 n)) ∧ Below w.heap.size w w' := by
  obtain ⟨i0, hi, hz0, hz1, hz2⟩ := info_parts infoComm
  have Hs : Hid (s.size = 5 * n) := hs
  have hs2 : s.size ≤ 180 := by omega
  clear hs
  go_enter Tryd.func21, Tryd.ntmps21
  go_wp2
  go_loopw [3, 4] (fun tv av wr => ∃ i m : Nat, i ≤ n ∧ m = 5 * i ∧ av = .int .i64 m ∧ PTurnAt wr w.heap.size tv (cmdsAt s 0 i) ∧ Below w.heap.size w wr) (fun _ av _ => s.size - (intOf av).toNat)
  case atStart => exact ⟨0, 0, Nat.zero_le _, rfl, rfl, ⟨⟨rfl, .inl ⟨rfl, rfl⟩⟩, fun _ => rfl, fun k e => (by cases e)⟩, Below.refl _ _⟩
  case round =>
    obtain ⟨i, m, hin, hm, rfl, htv, hbel⟩ := hrel
    have HM : Hid (m = 5 * i) := hm
    clear hm
    by_cases hlt : i < n
    · have hm1 : m + 5 ≤ s.size := by have := HM.out; have := Hs.out; omega
      have hm2 : (m : Int) + 5 ≤ s.size := by omega
      have hcl := cmdsAt_len s 0 i
      have Htv := (show Hid _ from htv)
      have HC : Hid (cmdsAt s 0 (i + 1) = cmdsAt s 0 i ++ [cmdAt s m]) := by unfold Hid; rw [HM.out]; simp [cmdsAt]
      have he5 : (s.extract m (m + 5)).size = 5 := by rw [ByteArray.size_extract]; omega
      have hsz := hbel.size
      clear htv
      go_wp2_with fail
      refine (readCommand_any _ he5 _).mono ?_
      rintro e wa ⟨rfl, hba⟩
      have e0 := byt_extract s m (m + 5) 0 hm1 (by omega)
      have e1 := byt_extract s m (m + 5) 1 hm1 (by omega)
      have e2 := byt_extract s m (m + 5) 2 hm1 (by omega)
      have e3 := byt_extract s m (m + 5) 3 hm1 (by omega)
      have e4 := byt_extract s m (m + 5) 4 hm1 (by omega)
      rw [e0, e1, e2, e3, e4]
      rw [Nat.add_zero]
      clear e0 e1 e2 e3 e4
      have hra := (Htv.out.below hba).row
      go_wp2_with (at_builtin; refine wpList_append_own_at _ rfl _ _ 35 rfl 0 71 i0 _ 5 40 Tryd.underlying35 hi hz0 hz1 hz2 rfl (by decide) _ _ _ rfl (RowAt.alloc hra _) ⟨wa.heap.size, 0, none⟩ 1 1 [.int .i64 (byt s m), .int .i64 (byt s (m + 1)), .int .i64 (byt s (m + 2)), .int .i64 (byt s (m + 3)), .int .i64 (byt s (m + 4))] rfl rfl ?c1 ?c2 ?c3 ?c4 ?c5 ?_)
      case c1 =>
        intro j u hj
        match j, hj with
        | 0, hj => simp at hj; subst hj; simp [Addr.add]
        | 1, hj => simp at hj; subst hj; simp [Addr.add]
        | 2, hj => simp at hj; subst hj; simp [Addr.add]
        | 3, hj => simp at hj; subst hj; simp [Addr.add]
        | 4, hj => simp at hj; subst hj; simp [Addr.add]
        | j + 5, hj => simp at hj
      case c2 => intro u hu; simp at hu; rcases hu with rfl | rfl | rfl | rfl | rfl <;> rfl
      case c3 => rw [hcl]; unfold maxLen; omega
      case c4 => rw [hcl]; omega
      case c5 => exact Nat.zero_le _
      · intro v' w2 hown hg hnil hob
        have hfin := pturn_step (c := cmdAt s m) Htv.out hbel hba (by rw [hcl]; exact hown) hg hob (Nat.le_refl _)
        rw [← HC.out] at hfin
        have Hfin := (show Hid _ from hfin)
        clear hfin hown hg hnil hob hra hba
        go_wp2
        go_roundw
        case rel =>
          go_light
          refine ⟨i + 1, m + 5, by omega, by have := HM.out; omega, by go_num, Hfin.out.1, Hfin.out.2⟩
        case measure => simp [intOf]; omega
    · have hin2 : i = n := by omega
      subst hin2
      have hmm : ¬ m < s.size := by have := HM.out; have := Hs.out; omega
      go_wp2
      go_ret
      exact ⟨⟨_, rfl, htv⟩, hbel⟩
end Go.Proofs.YtdianedehhecoaaDoor
