/- The program's act: which method it calls. -/
import Derived.Test.YtdianedehhecoaaDoorProgMeths
namespace Go.Proofs.YtdianedehhecoaaDoor
open Go.RowKit
set_option linter.unusedVariables false
set_option linter.unusedSimpArgs false

set_option maxHeartbeats 1000000 in
theorem actBaseMove {w : World} {b ub : Nat} {T : TypeId} {x y : Int} {r : Bool} {Q : World → Prop}
    (hm : ∀ W, (method 266 T (.pointer (some ⟨ub, 0, none⟩)) "garrison/rules.move").run Tryd.prog W = .ok (107, .pointer (some ⟨ub, 0, none⟩)) W)
    (hc : ∀ W, Below w.heap.size w W → Calls Tryd.prog 107 #[.pointer (some ⟨ub, 0, none⟩), .pointer (some ⟨b, 0, none⟩), .agg #[.int .i64 x, .int .i64 y]] W fun e w' => e = .returned (.bool r) ∧ Q w') :
    Calls Tryd.prog 48 #[.pointer (some ⟨b, 0, none⟩), .iface T (.pointer (some ⟨ub, 0, none⟩)), .int .i64 1, .agg #[.int .i64 x, .int .i64 y]] w fun e w' => e = .returned (.bool r) ∧ Q w' := by
  have HH := (show Hid _ from hc)
  have ha : Below w.heap.size w (w.alloc (.cells #[.int .i64 x, .int .i64 y] 57)) := (Below.refl _ _).alloc (Nat.le_refl _) _
  clear hc
  go_enter Tryd.func48, Tryd.ntmps48
  go_wp2_with (go_at_call 107; refine Calls.mono (HH.out _ ha) ?_; rintro e w1 ⟨rfl, h1⟩)
  go_ret
  exact ⟨rfl, h1⟩
set_option maxHeartbeats 1000000 in
theorem actBodyMove {w : World} {b ub : Nat} {T : TypeId} {x y : Int} {r : Bool} {Q : World → Prop}
    (hm : ∀ W, (method 266 T (.pointer (some ⟨ub, 0, none⟩)) "garrison/rules.move").run Tryd.prog W = .ok (102, .pointer (some ⟨ub, 0, none⟩)) W)
    (hc : ∀ W, Below w.heap.size w W → Calls Tryd.prog 102 #[.pointer (some ⟨ub, 0, none⟩), .pointer (some ⟨b, 0, none⟩), .agg #[.int .i64 x, .int .i64 y]] W fun e w' => e = .returned (.bool r) ∧ Q w') :
    Calls Tryd.prog 48 #[.pointer (some ⟨b, 0, none⟩), .iface T (.pointer (some ⟨ub, 0, none⟩)), .int .i64 1, .agg #[.int .i64 x, .int .i64 y]] w fun e w' => e = .returned (.bool r) ∧ Q w' := by
  have HH := (show Hid _ from hc)
  have ha : Below w.heap.size w (w.alloc (.cells #[.int .i64 x, .int .i64 y] 57)) := (Below.refl _ _).alloc (Nat.le_refl _) _
  clear hc
  go_enter Tryd.func48, Tryd.ntmps48
  go_wp2_with (go_at_call 102; refine Calls.mono (HH.out _ ha) ?_; rintro e w1 ⟨rfl, h1⟩)
  go_ret
  exact ⟨rfl, h1⟩
set_option maxHeartbeats 1000000 in
theorem actBaseHit {w : World} {b ub : Nat} {T : TypeId} {x y : Int} {r : Bool} {Q : World → Prop}
    (hm : ∀ W, (method 266 T (.pointer (some ⟨ub, 0, none⟩)) "garrison/rules.hit").run Tryd.prog W = .ok (106, .pointer (some ⟨ub, 0, none⟩)) W)
    (hc : ∀ W, Below w.heap.size w W → Calls Tryd.prog 106 #[.pointer (some ⟨ub, 0, none⟩), .pointer (some ⟨b, 0, none⟩), .agg #[.int .i64 x, .int .i64 y]] W fun e w' => e = .returned (.bool r) ∧ Q w') :
    Calls Tryd.prog 48 #[.pointer (some ⟨b, 0, none⟩), .iface T (.pointer (some ⟨ub, 0, none⟩)), .int .i64 2, .agg #[.int .i64 x, .int .i64 y]] w fun e w' => e = .returned (.bool r) ∧ Q w' := by
  have HH := (show Hid _ from hc)
  have ha : Below w.heap.size w (w.alloc (.cells #[.int .i64 x, .int .i64 y] 57)) := (Below.refl _ _).alloc (Nat.le_refl _) _
  clear hc
  go_enter Tryd.func48, Tryd.ntmps48
  go_wp2_with (go_at_call 106; refine Calls.mono (HH.out _ ha) ?_; rintro e w1 ⟨rfl, h1⟩)
  go_ret
  exact ⟨rfl, h1⟩
set_option maxHeartbeats 1000000 in
theorem actWorkerHit {w : World} {b ub : Nat} {T : TypeId} {x y : Int} {r : Bool} {Q : World → Prop}
    (hm : ∀ W, (method 266 T (.pointer (some ⟨ub, 0, none⟩)) "garrison/rules.hit").run Tryd.prog W = .ok (114, .pointer (some ⟨ub, 0, none⟩)) W)
    (hc : ∀ W, Below w.heap.size w W → Calls Tryd.prog 114 #[.pointer (some ⟨ub, 0, none⟩), .pointer (some ⟨b, 0, none⟩), .agg #[.int .i64 x, .int .i64 y]] W fun e w' => e = .returned (.bool r) ∧ Q w') :
    Calls Tryd.prog 48 #[.pointer (some ⟨b, 0, none⟩), .iface T (.pointer (some ⟨ub, 0, none⟩)), .int .i64 2, .agg #[.int .i64 x, .int .i64 y]] w fun e w' => e = .returned (.bool r) ∧ Q w' := by
  have HH := (show Hid _ from hc)
  have ha : Below w.heap.size w (w.alloc (.cells #[.int .i64 x, .int .i64 y] 57)) := (Below.refl _ _).alloc (Nat.le_refl _) _
  clear hc
  go_enter Tryd.func48, Tryd.ntmps48
  go_wp2_with (go_at_call 114; refine Calls.mono (HH.out _ ha) ?_; rintro e w1 ⟨rfl, h1⟩)
  go_ret
  exact ⟨rfl, h1⟩
set_option maxHeartbeats 1000000 in
theorem actSoldierHit {w : World} {b ub : Nat} {T : TypeId} {x y : Int} {r : Bool} {Q : World → Prop}
    (hm : ∀ W, (method 266 T (.pointer (some ⟨ub, 0, none⟩)) "garrison/rules.hit").run Tryd.prog W = .ok (117, .pointer (some ⟨ub, 0, none⟩)) W)
    (hc : ∀ W, Below w.heap.size w W → Calls Tryd.prog 117 #[.pointer (some ⟨ub, 0, none⟩), .pointer (some ⟨b, 0, none⟩), .agg #[.int .i64 x, .int .i64 y]] W fun e w' => e = .returned (.bool r) ∧ Q w') :
    Calls Tryd.prog 48 #[.pointer (some ⟨b, 0, none⟩), .iface T (.pointer (some ⟨ub, 0, none⟩)), .int .i64 2, .agg #[.int .i64 x, .int .i64 y]] w fun e w' => e = .returned (.bool r) ∧ Q w' := by
  have HH := (show Hid _ from hc)
  have ha : Below w.heap.size w (w.alloc (.cells #[.int .i64 x, .int .i64 y] 57)) := (Below.refl _ _).alloc (Nat.le_refl _) _
  clear hc
  go_enter Tryd.func48, Tryd.ntmps48
  go_wp2_with (go_at_call 117; refine Calls.mono (HH.out _ ha) ?_; rintro e w1 ⟨rfl, h1⟩)
  go_ret
  exact ⟨rfl, h1⟩
set_option maxHeartbeats 1000000 in
theorem actBodyDig {w : World} {b ub : Nat} {T : TypeId} {x y : Int} {r : Bool} {Q : World → Prop}
    (hm : ∀ W, (method 266 T (.pointer (some ⟨ub, 0, none⟩)) "garrison/rules.dig").run Tryd.prog W = .ok (100, .pointer (some ⟨ub, 0, none⟩)) W)
    (hc : ∀ W, Below w.heap.size w W → Calls Tryd.prog 100 #[.pointer (some ⟨ub, 0, none⟩), .pointer (some ⟨b, 0, none⟩), .agg #[.int .i64 x, .int .i64 y]] W fun e w' => e = .returned (.bool r) ∧ Q w') :
    Calls Tryd.prog 48 #[.pointer (some ⟨b, 0, none⟩), .iface T (.pointer (some ⟨ub, 0, none⟩)), .int .i64 3, .agg #[.int .i64 x, .int .i64 y]] w fun e w' => e = .returned (.bool r) ∧ Q w' := by
  have HH := (show Hid _ from hc)
  have ha : Below w.heap.size w (w.alloc (.cells #[.int .i64 x, .int .i64 y] 57)) := (Below.refl _ _).alloc (Nat.le_refl _) _
  clear hc
  go_enter Tryd.func48, Tryd.ntmps48
  go_wp2_with (go_at_call 100; refine Calls.mono (HH.out _ ha) ?_; rintro e w1 ⟨rfl, h1⟩)
  go_ret
  exact ⟨rfl, h1⟩
set_option maxHeartbeats 1000000 in
theorem actWorkerDig {w : World} {b ub : Nat} {T : TypeId} {x y : Int} {r : Bool} {Q : World → Prop}
    (hm : ∀ W, (method 266 T (.pointer (some ⟨ub, 0, none⟩)) "garrison/rules.dig").run Tryd.prog W = .ok (113, .pointer (some ⟨ub, 0, none⟩)) W)
    (hc : ∀ W, Below w.heap.size w W → Calls Tryd.prog 113 #[.pointer (some ⟨ub, 0, none⟩), .pointer (some ⟨b, 0, none⟩), .agg #[.int .i64 x, .int .i64 y]] W fun e w' => e = .returned (.bool r) ∧ Q w') :
    Calls Tryd.prog 48 #[.pointer (some ⟨b, 0, none⟩), .iface T (.pointer (some ⟨ub, 0, none⟩)), .int .i64 3, .agg #[.int .i64 x, .int .i64 y]] w fun e w' => e = .returned (.bool r) ∧ Q w' := by
  have HH := (show Hid _ from hc)
  have ha : Below w.heap.size w (w.alloc (.cells #[.int .i64 x, .int .i64 y] 57)) := (Below.refl _ _).alloc (Nat.le_refl _) _
  clear hc
  go_enter Tryd.func48, Tryd.ntmps48
  go_wp2_with (go_at_call 113; refine Calls.mono (HH.out _ ha) ?_; rintro e w1 ⟨rfl, h1⟩)
  go_ret
  exact ⟨rfl, h1⟩
set_option maxHeartbeats 1000000 in
theorem actBodyHire {w : World} {b ub : Nat} {T : TypeId} {x y : Int} {r : Bool} {Q : World → Prop}
    (hm : ∀ W, (method 266 T (.pointer (some ⟨ub, 0, none⟩)) "garrison/rules.hire").run Tryd.prog W = .ok (101, .pointer (some ⟨ub, 0, none⟩)) W)
    (hc : ∀ W, Below w.heap.size w W → Calls Tryd.prog 101 #[.pointer (some ⟨ub, 0, none⟩), .pointer (some ⟨b, 0, none⟩), .agg #[.int .i64 x, .int .i64 y]] W fun e w' => e = .returned (.bool r) ∧ Q w') :
    Calls Tryd.prog 48 #[.pointer (some ⟨b, 0, none⟩), .iface T (.pointer (some ⟨ub, 0, none⟩)), .int .i64 4, .agg #[.int .i64 x, .int .i64 y]] w fun e w' => e = .returned (.bool r) ∧ Q w' := by
  have HH := (show Hid _ from hc)
  have ha : Below w.heap.size w (w.alloc (.cells #[.int .i64 x, .int .i64 y] 57)) := (Below.refl _ _).alloc (Nat.le_refl _) _
  clear hc
  go_enter Tryd.func48, Tryd.ntmps48
  go_wp2_with (go_at_call 101; refine Calls.mono (HH.out _ ha) ?_; rintro e w1 ⟨rfl, h1⟩)
  go_ret
  exact ⟨rfl, h1⟩
set_option maxHeartbeats 1000000 in
theorem actBaseHire {w : World} {b ub : Nat} {T : TypeId} {x y : Int} {r : Bool} {Q : World → Prop}
    (hm : ∀ W, (method 266 T (.pointer (some ⟨ub, 0, none⟩)) "garrison/rules.hire").run Tryd.prog W = .ok (105, .pointer (some ⟨ub, 0, none⟩)) W)
    (hc : ∀ W, Below w.heap.size w W → Calls Tryd.prog 105 #[.pointer (some ⟨ub, 0, none⟩), .pointer (some ⟨b, 0, none⟩), .agg #[.int .i64 x, .int .i64 y]] W fun e w' => e = .returned (.bool r) ∧ Q w') :
    Calls Tryd.prog 48 #[.pointer (some ⟨b, 0, none⟩), .iface T (.pointer (some ⟨ub, 0, none⟩)), .int .i64 4, .agg #[.int .i64 x, .int .i64 y]] w fun e w' => e = .returned (.bool r) ∧ Q w' := by
  have HH := (show Hid _ from hc)
  have ha : Below w.heap.size w (w.alloc (.cells #[.int .i64 x, .int .i64 y] 57)) := (Below.refl _ _).alloc (Nat.le_refl _) _
  clear hc
  go_enter Tryd.func48, Tryd.ntmps48
  go_wp2_with (go_at_call 105; refine Calls.mono (HH.out _ ha) ?_; rintro e w1 ⟨rfl, h1⟩)
  go_ret
  exact ⟨rfl, h1⟩
set_option maxHeartbeats 1000000 in
theorem actBodyTrain {w : World} {b ub : Nat} {T : TypeId} {x y : Int} {r : Bool} {Q : World → Prop}
    (hm : ∀ W, (method 266 T (.pointer (some ⟨ub, 0, none⟩)) "garrison/rules.train").run Tryd.prog W = .ok (103, .pointer (some ⟨ub, 0, none⟩)) W)
    (hc : ∀ W, Below w.heap.size w W → Calls Tryd.prog 103 #[.pointer (some ⟨ub, 0, none⟩), .pointer (some ⟨b, 0, none⟩), .agg #[.int .i64 x, .int .i64 y]] W fun e w' => e = .returned (.bool r) ∧ Q w') :
    Calls Tryd.prog 48 #[.pointer (some ⟨b, 0, none⟩), .iface T (.pointer (some ⟨ub, 0, none⟩)), .int .i64 5, .agg #[.int .i64 x, .int .i64 y]] w fun e w' => e = .returned (.bool r) ∧ Q w' := by
  have HH := (show Hid _ from hc)
  have ha : Below w.heap.size w (w.alloc (.cells #[.int .i64 x, .int .i64 y] 57)) := (Below.refl _ _).alloc (Nat.le_refl _) _
  clear hc
  go_enter Tryd.func48, Tryd.ntmps48
  go_wp2_with (go_at_call 103; refine Calls.mono (HH.out _ ha) ?_; rintro e w1 ⟨rfl, h1⟩)
  go_ret
  exact ⟨rfl, h1⟩
set_option maxHeartbeats 1000000 in
theorem actBaseTrain {w : World} {b ub : Nat} {T : TypeId} {x y : Int} {r : Bool} {Q : World → Prop}
    (hm : ∀ W, (method 266 T (.pointer (some ⟨ub, 0, none⟩)) "garrison/rules.train").run Tryd.prog W = .ok (108, .pointer (some ⟨ub, 0, none⟩)) W)
    (hc : ∀ W, Below w.heap.size w W → Calls Tryd.prog 108 #[.pointer (some ⟨ub, 0, none⟩), .pointer (some ⟨b, 0, none⟩), .agg #[.int .i64 x, .int .i64 y]] W fun e w' => e = .returned (.bool r) ∧ Q w') :
    Calls Tryd.prog 48 #[.pointer (some ⟨b, 0, none⟩), .iface T (.pointer (some ⟨ub, 0, none⟩)), .int .i64 5, .agg #[.int .i64 x, .int .i64 y]] w fun e w' => e = .returned (.bool r) ∧ Q w' := by
  have HH := (show Hid _ from hc)
  have ha : Below w.heap.size w (w.alloc (.cells #[.int .i64 x, .int .i64 y] 57)) := (Below.refl _ _).alloc (Nat.le_refl _) _
  clear hc
  go_enter Tryd.func48, Tryd.ntmps48
  go_wp2_with (go_at_call 108; refine Calls.mono (HH.out _ ha) ?_; rintro e w1 ⟨rfl, h1⟩)
  go_ret
  exact ⟨rfl, h1⟩
set_option maxHeartbeats 1000000 in
theorem actNone {w : World} {b ub : Nat} {T : TypeId} {x y wh : Int} (h1 : wh ≠ 1) (h2 : wh ≠ 2) (h3 : wh ≠ 3) (h4 : wh ≠ 4) (h5 : wh ≠ 5) :
    Calls Tryd.prog 48 #[.pointer (some ⟨b, 0, none⟩), .iface T (.pointer (some ⟨ub, 0, none⟩)), .int .i64 wh, .agg #[.int .i64 x, .int .i64 y]] w fun e w' => e = .returned (.bool false) ∧ Below w.heap.size w w' := by
  have e1 : (wh == 1) = false := beq_eq_false_iff_ne.2 h1
  have e2 : (wh == 2) = false := beq_eq_false_iff_ne.2 h2
  have e3 : (wh == 3) = false := beq_eq_false_iff_ne.2 h3
  have e4 : (wh == 4) = false := beq_eq_false_iff_ne.2 h4
  have e5 : (wh == 5) = false := beq_eq_false_iff_ne.2 h5
  clear h1 h2 h3 h4 h5
  go_enter Tryd.func48, Tryd.ntmps48
  go_wp2
  go_ret
  exact ⟨rfl, (Below.refl _ _).alloc (Nat.le_refl _) _⟩
end Go.Proofs.YtdianedehhecoaaDoor
