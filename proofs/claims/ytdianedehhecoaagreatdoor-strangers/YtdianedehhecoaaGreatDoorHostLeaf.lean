/- Small functions of the host: the counter, the rooms. -/
import Derived.Test.YtdianedehhecoaaGreatDoorBase
import Derived.Laws.LoneSync
import Derived.Lib.Builder
import Derived.Lib.UnsafeStr
namespace Go.Proofs.YtdianedehhecoaaGreatDoor
open Go.RowKit
set_option linter.unusedVariables false
set_option linter.unusedSimpArgs false

/-- sync/atomic.LoadPointer: what the cell holds -/
theorem run_call_loadP {P : Program} {f : FuncId} {fn : Func} (hf : P.funcs[f]? = some fn) (hname : (fn.name == "runtime.NumGoroutine") = false) (hb : fn.body.isNone = true) (hn : Extern.findNext fn = none)
    (he : Extern.find fn = some (Extern.Atomic.loadT .ptr)) {a : Addr} {x : Option Addr} {w : World} (hc : w.cell? a = some (.pointer x)) :
    (callFunc f #[.pointer (some a)]).run P w = .ok (.value (.pointer x)) w := by
  rw [run_callFunc_extern hf hname hb hn he]
  change (Sem.run P (do Extern.Atomic.read .ptr (← asAddr (.pointer (some a)))) w).andThen _ = _
  simp [Extern.Atomic.read, asAddr, hc, Result.andThen]
/-- sync/atomic.StorePointer -/
theorem run_call_storeP {P : Program} {f : FuncId} {fn : Func} (hf : P.funcs[f]? = some fn) (hname : (fn.name == "runtime.NumGoroutine") = false) (hb : fn.body.isNone = true) (hn : Extern.findNext fn = none)
    (he : Extern.find fn = some Extern.Atomic.storeT) {a : Addr} {y : Option Addr} {u : Value} {w : World} (hc : w.cell? a = some u) (hz : w.frozen? a = false) :
    (callFunc f #[.pointer (some a), .pointer y]).run P w = .ok (.value (.tuple #[])) (w.setCell a (.pointer y)) := by
  rw [run_callFunc_extern hf hname hb hn he]
  change (Sem.run P (do
    store (← asAddr (.pointer (some a))) (.pointer y) .atomic
    pure Extern.Atomic.none_) w).andThen _ = _
  simp [asAddr, hc, hz, run_store P w a (.pointer y) .atomic rfl, Result.andThen, Extern.Atomic.none_]

set_option maxHeartbeats 1000000 in
set_option maxRecDepth 20000 in
theorem load64_any (b o : Nat) (n : Int) (w : World) (hc : w.cell? ⟨b, o, none⟩ = some (.int .i64 n)) :
    Calls Pz.prog 112 #[.pointer (some ⟨b, o, none⟩)] w fun e w' => e = .returned (.int .i64 n) ∧ w' = w := by
  have hld := run_call_load (P := Pz.prog) (w := w) Pz.func169 (by kernel_rfl) (by kernel_rfl) (by kernel_rfl) .i64 (by kernel_rfl) hc
  go_enter Pz.func112, Tryz.ntmps112
  go_wp2
  go_ret
  exact ⟨rfl, rfl⟩
set_option maxHeartbeats 1000000 in
set_option maxRecDepth 20000 in
theorem cas64_hit (b o : Nat) (n m : Int) (w : World) (hc : w.cell? ⟨b, o, none⟩ = some (.int .i64 n)) (hz : w.frozen? ⟨b, o, none⟩ = false) :
    Calls Pz.prog 113 #[.pointer (some ⟨b, o, none⟩), .int .i64 n, .int .i64 m] w fun e w' => e = .returned (.bool true) ∧ w' = w.setCell ⟨b, o, none⟩ (.int .i64 m) := by
  have hcas := run_call_cas_hit (P := Pz.prog) (w := w) Pz.func170 (by kernel_rfl) (by kernel_rfl) (by kernel_rfl) .i64 (by kernel_rfl) (y := m) hc hz
  go_enter Pz.func113, Tryz.ntmps113
  go_wp2
  go_ret
  exact ⟨rfl, rfl⟩
set_option maxHeartbeats 1000000 in
set_option maxRecDepth 20000 in
theorem next_any (b o : Nat) (n bound : Int) (w : World) (n0 : 0 ≤ n) (hn : n < bound) (hb : bound ≤ 1000000) (hc : w.cell? ⟨b, o, none⟩ = some (.int .i64 n)) (hz : w.frozen? ⟨b, o, none⟩ = false) :
    Calls Pz.prog 66 #[.pointer (some ⟨b, o, none⟩), .int .i64 bound] w fun e w' => e = .returned (.tuple #[.int .i64 n, .bool true]) ∧ w' = w.setCell ⟨b, o, none⟩ (.int .i64 (n + 1)) := by
  have H1 := (show Hid _ from load64_any b o n w hc)
  have H2 := (show Hid _ from cas64_hit b o n (n + 1) w hc hz)
  clear hc hz
  go_enter Pz.func66, Tryz.ntmps66
  go_wp2
  go_loop [6] (fun _ => True) (fun _ => 0)
  · trivial
  · intros
    go_wp2_with (first | (go_at_call 112; refine Calls.mono H1.out ?_; rintro e w' ⟨rfl, rfl⟩) | (go_at_call 113; refine Calls.mono H2.out ?_; rintro e w' ⟨rfl, rfl⟩))
    go_ret2
    exact ⟨rfl, rfl⟩
set_option maxHeartbeats 1000000 in
set_option maxRecDepth 20000 in
theorem pload_any (b o mb : Nat) (xs : List Value) (w : World) (hc : w.cell? ⟨b, o, none⟩ = some (.pointer (some ⟨mb, 0, none⟩))) (hm : BlkAt w mb xs 136) (hl : xs.length = 7) :
    Calls Pz.prog 88 #[.pointer (some ⟨b, o, none⟩)] w fun e w' => e = .returned (.pointer (some ⟨mb, 0, none⟩)) ∧ w' = w := by
  have hld := run_call_loadP (P := Pz.prog) (w := w) Pz.func153 (by kernel_rfl) (by kernel_rfl) (by kernel_rfl) (by kernel_rfl) hc
  have hsh : w.shape? mb = some (136, 7) := by
    unfold BlkAt at hm
    unfold World.shape?
    rw [hm]
    simp [hl]
  obtain ⟨j, hj⟩ : ∃ j, Pz.prog.info? 136 = some j := Option.isSome_iff_exists.1 (by kernel_rfl)
  have hfu := Go.Lib.run_from_unsafe (P := Pz.prog) (w := w) (src := 115) (dst := 85) (u := 136) ⟨mb, 0, none⟩ (by kernel_rfl) (by kernel_rfl) hj hsh (by kernel_rfl)
  clear hj
  go_enter Pz.func88, Tryz.ntmps88
  go_wp2
  go_ret
  exact ⟨rfl, rfl⟩
set_option maxHeartbeats 1000000 in
set_option maxRecDepth 20000 in
theorem pstore_any (b o mb : Nat) (xs : List Value) (u : Value) (w : World) (hc : w.cell? ⟨b, o, none⟩ = some u) (hz : w.frozen? ⟨b, o, none⟩ = false) (hm : BlkAt w mb xs 136) (hl : xs.length = 7) :
    Calls Pz.prog 67 #[.pointer (some ⟨b, o, none⟩), .pointer (some ⟨mb, 0, none⟩)] w fun e w' => e = .returned (.tuple #[]) ∧ w' = w.setCell ⟨b, o, none⟩ (.pointer (some ⟨mb, 0, none⟩)) := by
  have hst := run_call_storeP (P := Pz.prog) (w := w) Pz.func114 (by kernel_rfl) (by kernel_rfl) (by kernel_rfl) (by kernel_rfl) (y := some ⟨mb, 0, none⟩) hc hz
  obtain ⟨v0, hv0⟩ : ∃ v, xs[0]? = some v := ⟨xs[0], List.getElem?_eq_getElem (by omega)⟩
  have hcv := run_convert_to_unsafe (P := Pz.prog) (src := 85) (dst := 115) (t := 136) (by kernel_rfl) (by kernel_rfl) (by kernel_rfl) (hm.cell hv0)
  go_enter Pz.func67, Tryz.ntmps67
  go_wp2
  go_end0
  exact ⟨rfl, rfl⟩
set_option maxHeartbeats 1000000 in
set_option maxRecDepth 20000 in
theorem kname_any (p : Nat) (w : World) (hp : p < 4) :
    Calls Pz.prog 27 #[.int .i64 p] w fun e w' => e = .returned (.string ⟨#[(97 + p).toUInt8]⟩) ∧ w' = w := by
  have hcs : p = 0 ∨ p = 1 ∨ p = 2 ∨ p = 3 := by omega
  rcases hcs with rfl | rfl | rfl | rfl
  all_goals
    go_enter Pz.func27, Tryz.ntmps27
    go_wp2
    go_ret
    exact ⟨rfl, rfl⟩
/-- a host's cells: so many matches made, no watcher yet -/
def hostV (made : Int) (rb : Nat) : List Value := .int .i64 made :: .slice (some ⟨rb, 0, none⟩) 8 8 :: .int .i64 0 :: List.replicate 20 (.pointer none)
set_option maxHeartbeats 1000000 in
set_option maxRecDepth 20000 in
theorem new_any (w : World) :
    Calls Pz.prog 31 #[.int .i64 8] w fun e w' => e = .returned (.tuple #[.pointer (some ⟨w.heap.size + 1, 0, none⟩), .int .i64 0]) ∧ BlkAt w' w.heap.size (List.replicate 8 (.pointer none)) 125 ∧ BlkAt w' (w.heap.size + 1) (hostV 0 w.heap.size) 120 ∧ w'.heap.size = w.heap.size + 2 ∧ Below w.heap.size w w' := by
  have hmk : ∀ w, (Instr.makeSlice 105 (.int .i64 8) (.int .i64 8)).run Pz.prog w = .ok (.slice (some ⟨w.heap.size, 0, none⟩) 8 8) (w.alloc (.cells #[.pointer none, .pointer none, .pointer none, .pointer none, .pointer none, .pointer none, .pointer none, .pointer none] 125)) := fun _ => by kernel_rfl
  go_enter Pz.func31, Tryz.ntmps31
  go_wp2
  go_ret2
  refine ⟨rfl, (BlkAt.new w _ _).alloc _, ?_, ?_, ?_⟩
  · have h := BlkAt.new (w.alloc (.cells #[.pointer none, .pointer none, .pointer none, .pointer none, .pointer none, .pointer none, .pointer none, .pointer none] 125)) (hostV 0 w.heap.size) 120
    rw [show (w.alloc (.cells #[.pointer none, .pointer none, .pointer none, .pointer none, .pointer none, .pointer none, .pointer none, .pointer none] 125)).heap.size = w.heap.size + 1 by simp] at h
    exact h
  · simp
  · exact (((Below.refl _ _).alloc (Nat.le_refl _) _).alloc (by simp) _)
end Go.Proofs.YtdianedehhecoaaGreatDoor
