/- The program's act: which method it calls. -/
import Derived.Test.YtdianedehhecoaaGreatDoorTProgMeths
set_option linter.unusedVariables false
set_option linter.unusedSimpArgs false
set_option maxHeartbeats 1000000
namespace Go.Proofs.YtdianedehhecoaaGreatDoor
open Go.RowKit
theorem actBaseMove {w:World}{b ub:Nat}{T:TypeId}{x y:Int}{r:Bool}{Q:World→Prop}
    (hm : ∀ W, (method 449 T (.pointer (some ⟨ub, 0, none⟩)) "garrison/rules.move").run Pz.prog W = .ok (258, .pointer (some ⟨ub, 0, none⟩)) W)
    (hc:∀ W,Below w.heap.size w W→Calls Pz.prog 258 #[.pointer (some ⟨ub,0,none⟩),.pointer (some ⟨b,0,none⟩),.agg #[.int .i64 x,.int .i64 y]] W fun e w'=>e=.returned (.bool r)∧Q w') :
    Calls Pz.prog 143 #[.pointer (some ⟨b,0,none⟩),.iface T (.pointer (some ⟨ub,0,none⟩)),.int .i64 1,.agg #[.int .i64 x,.int .i64 y]] w fun e w'=>e=.returned (.bool r)∧Q w':=by
  have HH:=(show Hid _ from hc)
  have ha:Below w.heap.size w (w.alloc (.cells #[.int .i64 x,.int .i64 y] 157)):=(Below.refl _ _).alloc (Nat.le_refl _) _
  clear hc
  go_enter Pz.func143,Tryz.ntmps143
  go_wp2_with (go_at_call 258;refine Calls.mono (HH.out _ ha) ?_;rintro e w1 ⟨rfl,h1⟩)
  go_ret
  exact ⟨rfl,h1⟩
theorem actBodyMove {w:World}{b ub:Nat}{T:TypeId}{x y:Int}{r:Bool}{Q:World→Prop}
    (hm : ∀ W, (method 449 T (.pointer (some ⟨ub, 0, none⟩)) "garrison/rules.move").run Pz.prog W = .ok (253, .pointer (some ⟨ub, 0, none⟩)) W)
    (hc:∀ W,Below w.heap.size w W→Calls Pz.prog 253 #[.pointer (some ⟨ub,0,none⟩),.pointer (some ⟨b,0,none⟩),.agg #[.int .i64 x,.int .i64 y]] W fun e w'=>e=.returned (.bool r)∧Q w') :
    Calls Pz.prog 143 #[.pointer (some ⟨b,0,none⟩),.iface T (.pointer (some ⟨ub,0,none⟩)),.int .i64 1,.agg #[.int .i64 x,.int .i64 y]] w fun e w'=>e=.returned (.bool r)∧Q w':=by
  have HH:=(show Hid _ from hc)
  have ha:Below w.heap.size w (w.alloc (.cells #[.int .i64 x,.int .i64 y] 157)):=(Below.refl _ _).alloc (Nat.le_refl _) _
  clear hc
  go_enter Pz.func143,Tryz.ntmps143
  go_wp2_with (go_at_call 253;refine Calls.mono (HH.out _ ha) ?_;rintro e w1 ⟨rfl,h1⟩)
  go_ret
  exact ⟨rfl,h1⟩
theorem actBaseHit {w:World}{b ub:Nat}{T:TypeId}{x y:Int}{r:Bool}{Q:World→Prop}
    (hm : ∀ W, (method 449 T (.pointer (some ⟨ub, 0, none⟩)) "garrison/rules.hit").run Pz.prog W = .ok (257, .pointer (some ⟨ub, 0, none⟩)) W)
    (hc:∀ W,Below w.heap.size w W→Calls Pz.prog 257 #[.pointer (some ⟨ub,0,none⟩),.pointer (some ⟨b,0,none⟩),.agg #[.int .i64 x,.int .i64 y]] W fun e w'=>e=.returned (.bool r)∧Q w') :
    Calls Pz.prog 143 #[.pointer (some ⟨b,0,none⟩),.iface T (.pointer (some ⟨ub,0,none⟩)),.int .i64 2,.agg #[.int .i64 x,.int .i64 y]] w fun e w'=>e=.returned (.bool r)∧Q w':=by
  have HH:=(show Hid _ from hc)
  have ha:Below w.heap.size w (w.alloc (.cells #[.int .i64 x,.int .i64 y] 157)):=(Below.refl _ _).alloc (Nat.le_refl _) _
  clear hc
  go_enter Pz.func143,Tryz.ntmps143
  go_wp2_with (go_at_call 257;refine Calls.mono (HH.out _ ha) ?_;rintro e w1 ⟨rfl,h1⟩)
  go_ret
  exact ⟨rfl,h1⟩
theorem actWorkerHit {w:World}{b ub:Nat}{T:TypeId}{x y:Int}{r:Bool}{Q:World→Prop}
    (hm : ∀ W, (method 449 T (.pointer (some ⟨ub, 0, none⟩)) "garrison/rules.hit").run Pz.prog W = .ok (265, .pointer (some ⟨ub, 0, none⟩)) W)
    (hc:∀ W,Below w.heap.size w W→Calls Pz.prog 265 #[.pointer (some ⟨ub,0,none⟩),.pointer (some ⟨b,0,none⟩),.agg #[.int .i64 x,.int .i64 y]] W fun e w'=>e=.returned (.bool r)∧Q w') :
    Calls Pz.prog 143 #[.pointer (some ⟨b,0,none⟩),.iface T (.pointer (some ⟨ub,0,none⟩)),.int .i64 2,.agg #[.int .i64 x,.int .i64 y]] w fun e w'=>e=.returned (.bool r)∧Q w':=by
  have HH:=(show Hid _ from hc)
  have ha:Below w.heap.size w (w.alloc (.cells #[.int .i64 x,.int .i64 y] 157)):=(Below.refl _ _).alloc (Nat.le_refl _) _
  clear hc
  go_enter Pz.func143,Tryz.ntmps143
  go_wp2_with (go_at_call 265;refine Calls.mono (HH.out _ ha) ?_;rintro e w1 ⟨rfl,h1⟩)
  go_ret
  exact ⟨rfl,h1⟩
theorem actSoldierHit {w:World}{b ub:Nat}{T:TypeId}{x y:Int}{r:Bool}{Q:World→Prop}
    (hm : ∀ W, (method 449 T (.pointer (some ⟨ub, 0, none⟩)) "garrison/rules.hit").run Pz.prog W = .ok (268, .pointer (some ⟨ub, 0, none⟩)) W)
    (hc:∀ W,Below w.heap.size w W→Calls Pz.prog 268 #[.pointer (some ⟨ub,0,none⟩),.pointer (some ⟨b,0,none⟩),.agg #[.int .i64 x,.int .i64 y]] W fun e w'=>e=.returned (.bool r)∧Q w') :
    Calls Pz.prog 143 #[.pointer (some ⟨b,0,none⟩),.iface T (.pointer (some ⟨ub,0,none⟩)),.int .i64 2,.agg #[.int .i64 x,.int .i64 y]] w fun e w'=>e=.returned (.bool r)∧Q w':=by
  have HH:=(show Hid _ from hc)
  have ha:Below w.heap.size w (w.alloc (.cells #[.int .i64 x,.int .i64 y] 157)):=(Below.refl _ _).alloc (Nat.le_refl _) _
  clear hc
  go_enter Pz.func143,Tryz.ntmps143
  go_wp2_with (go_at_call 268;refine Calls.mono (HH.out _ ha) ?_;rintro e w1 ⟨rfl,h1⟩)
  go_ret
  exact ⟨rfl,h1⟩
theorem actBodyDig {w:World}{b ub:Nat}{T:TypeId}{x y:Int}{r:Bool}{Q:World→Prop}
    (hm : ∀ W, (method 449 T (.pointer (some ⟨ub, 0, none⟩)) "garrison/rules.dig").run Pz.prog W = .ok (251, .pointer (some ⟨ub, 0, none⟩)) W)
    (hc:∀ W,Below w.heap.size w W→Calls Pz.prog 251 #[.pointer (some ⟨ub,0,none⟩),.pointer (some ⟨b,0,none⟩),.agg #[.int .i64 x,.int .i64 y]] W fun e w'=>e=.returned (.bool r)∧Q w') :
    Calls Pz.prog 143 #[.pointer (some ⟨b,0,none⟩),.iface T (.pointer (some ⟨ub,0,none⟩)),.int .i64 3,.agg #[.int .i64 x,.int .i64 y]] w fun e w'=>e=.returned (.bool r)∧Q w':=by
  have HH:=(show Hid _ from hc)
  have ha:Below w.heap.size w (w.alloc (.cells #[.int .i64 x,.int .i64 y] 157)):=(Below.refl _ _).alloc (Nat.le_refl _) _
  clear hc
  go_enter Pz.func143,Tryz.ntmps143
  go_wp2_with (go_at_call 251;refine Calls.mono (HH.out _ ha) ?_;rintro e w1 ⟨rfl,h1⟩)
  go_ret
  exact ⟨rfl,h1⟩
theorem actWorkerDig {w:World}{b ub:Nat}{T:TypeId}{x y:Int}{r:Bool}{Q:World→Prop}
    (hm : ∀ W, (method 449 T (.pointer (some ⟨ub, 0, none⟩)) "garrison/rules.dig").run Pz.prog W = .ok (264, .pointer (some ⟨ub, 0, none⟩)) W)
    (hc:∀ W,Below w.heap.size w W→Calls Pz.prog 264 #[.pointer (some ⟨ub,0,none⟩),.pointer (some ⟨b,0,none⟩),.agg #[.int .i64 x,.int .i64 y]] W fun e w'=>e=.returned (.bool r)∧Q w') :
    Calls Pz.prog 143 #[.pointer (some ⟨b,0,none⟩),.iface T (.pointer (some ⟨ub,0,none⟩)),.int .i64 3,.agg #[.int .i64 x,.int .i64 y]] w fun e w'=>e=.returned (.bool r)∧Q w':=by
  have HH:=(show Hid _ from hc)
  have ha:Below w.heap.size w (w.alloc (.cells #[.int .i64 x,.int .i64 y] 157)):=(Below.refl _ _).alloc (Nat.le_refl _) _
  clear hc
  go_enter Pz.func143,Tryz.ntmps143
  go_wp2_with (go_at_call 264;refine Calls.mono (HH.out _ ha) ?_;rintro e w1 ⟨rfl,h1⟩)
  go_ret
  exact ⟨rfl,h1⟩
theorem actBodyHire {w:World}{b ub:Nat}{T:TypeId}{x y:Int}{r:Bool}{Q:World→Prop}
    (hm : ∀ W, (method 449 T (.pointer (some ⟨ub, 0, none⟩)) "garrison/rules.hire").run Pz.prog W = .ok (252, .pointer (some ⟨ub, 0, none⟩)) W)
    (hc:∀ W,Below w.heap.size w W→Calls Pz.prog 252 #[.pointer (some ⟨ub,0,none⟩),.pointer (some ⟨b,0,none⟩),.agg #[.int .i64 x,.int .i64 y]] W fun e w'=>e=.returned (.bool r)∧Q w') :
    Calls Pz.prog 143 #[.pointer (some ⟨b,0,none⟩),.iface T (.pointer (some ⟨ub,0,none⟩)),.int .i64 4,.agg #[.int .i64 x,.int .i64 y]] w fun e w'=>e=.returned (.bool r)∧Q w':=by
  have HH:=(show Hid _ from hc)
  have ha:Below w.heap.size w (w.alloc (.cells #[.int .i64 x,.int .i64 y] 157)):=(Below.refl _ _).alloc (Nat.le_refl _) _
  clear hc
  go_enter Pz.func143,Tryz.ntmps143
  go_wp2_with (go_at_call 252;refine Calls.mono (HH.out _ ha) ?_;rintro e w1 ⟨rfl,h1⟩)
  go_ret
  exact ⟨rfl,h1⟩
theorem actBaseHire {w:World}{b ub:Nat}{T:TypeId}{x y:Int}{r:Bool}{Q:World→Prop}
    (hm : ∀ W, (method 449 T (.pointer (some ⟨ub, 0, none⟩)) "garrison/rules.hire").run Pz.prog W = .ok (256, .pointer (some ⟨ub, 0, none⟩)) W)
    (hc:∀ W,Below w.heap.size w W→Calls Pz.prog 256 #[.pointer (some ⟨ub,0,none⟩),.pointer (some ⟨b,0,none⟩),.agg #[.int .i64 x,.int .i64 y]] W fun e w'=>e=.returned (.bool r)∧Q w') :
    Calls Pz.prog 143 #[.pointer (some ⟨b,0,none⟩),.iface T (.pointer (some ⟨ub,0,none⟩)),.int .i64 4,.agg #[.int .i64 x,.int .i64 y]] w fun e w'=>e=.returned (.bool r)∧Q w':=by
  have HH:=(show Hid _ from hc)
  have ha:Below w.heap.size w (w.alloc (.cells #[.int .i64 x,.int .i64 y] 157)):=(Below.refl _ _).alloc (Nat.le_refl _) _
  clear hc
  go_enter Pz.func143,Tryz.ntmps143
  go_wp2_with (go_at_call 256;refine Calls.mono (HH.out _ ha) ?_;rintro e w1 ⟨rfl,h1⟩)
  go_ret
  exact ⟨rfl,h1⟩
theorem actBodyTrain {w:World}{b ub:Nat}{T:TypeId}{x y:Int}{r:Bool}{Q:World→Prop}
    (hm : ∀ W, (method 449 T (.pointer (some ⟨ub, 0, none⟩)) "garrison/rules.train").run Pz.prog W = .ok (254, .pointer (some ⟨ub, 0, none⟩)) W)
    (hc:∀ W,Below w.heap.size w W→Calls Pz.prog 254 #[.pointer (some ⟨ub,0,none⟩),.pointer (some ⟨b,0,none⟩),.agg #[.int .i64 x,.int .i64 y]] W fun e w'=>e=.returned (.bool r)∧Q w') :
    Calls Pz.prog 143 #[.pointer (some ⟨b,0,none⟩),.iface T (.pointer (some ⟨ub,0,none⟩)),.int .i64 5,.agg #[.int .i64 x,.int .i64 y]] w fun e w'=>e=.returned (.bool r)∧Q w':=by
  have HH:=(show Hid _ from hc)
  have ha:Below w.heap.size w (w.alloc (.cells #[.int .i64 x,.int .i64 y] 157)):=(Below.refl _ _).alloc (Nat.le_refl _) _
  clear hc
  go_enter Pz.func143,Tryz.ntmps143
  go_wp2_with (go_at_call 254;refine Calls.mono (HH.out _ ha) ?_;rintro e w1 ⟨rfl,h1⟩)
  go_ret
  exact ⟨rfl,h1⟩
theorem actBaseTrain {w:World}{b ub:Nat}{T:TypeId}{x y:Int}{r:Bool}{Q:World→Prop}
    (hm : ∀ W, (method 449 T (.pointer (some ⟨ub, 0, none⟩)) "garrison/rules.train").run Pz.prog W = .ok (259, .pointer (some ⟨ub, 0, none⟩)) W)
    (hc:∀ W,Below w.heap.size w W→Calls Pz.prog 259 #[.pointer (some ⟨ub,0,none⟩),.pointer (some ⟨b,0,none⟩),.agg #[.int .i64 x,.int .i64 y]] W fun e w'=>e=.returned (.bool r)∧Q w') :
    Calls Pz.prog 143 #[.pointer (some ⟨b,0,none⟩),.iface T (.pointer (some ⟨ub,0,none⟩)),.int .i64 5,.agg #[.int .i64 x,.int .i64 y]] w fun e w'=>e=.returned (.bool r)∧Q w':=by
  have HH:=(show Hid _ from hc)
  have ha:Below w.heap.size w (w.alloc (.cells #[.int .i64 x,.int .i64 y] 157)):=(Below.refl _ _).alloc (Nat.le_refl _) _
  clear hc
  go_enter Pz.func143,Tryz.ntmps143
  go_wp2_with (go_at_call 259;refine Calls.mono (HH.out _ ha) ?_;rintro e w1 ⟨rfl,h1⟩)
  go_ret
  exact ⟨rfl,h1⟩
theorem actNone {w:World}{b ub:Nat}{T:TypeId}{x y wh:Int}(h1:wh≠1)(h2:wh≠2)(h3:wh≠3)(h4:wh≠4)(h5:wh≠5) :
  Calls Pz.prog 143 #[.pointer (some ⟨b,0,none⟩),.iface T (.pointer (some ⟨ub,0,none⟩)),.int .i64 wh,.agg #[.int .i64 x,.int .i64 y]] w fun e w'=>e=.returned (.bool false)∧Below w.heap.size w w':=by
 have e1:(wh == 1)=false:=beq_eq_false_iff_ne.2 h1
 have e2:(wh == 2)=false:=beq_eq_false_iff_ne.2 h2
 have e3:(wh == 3)=false:=beq_eq_false_iff_ne.2 h3
 have e4:(wh == 4)=false:=beq_eq_false_iff_ne.2 h4
 have e5:(wh == 5)=false:=beq_eq_false_iff_ne.2 h5
 clear h1 h2 h3 h4 h5
 go_enter Pz.func143,Tryz.ntmps143
 go_wp2
 go_ret
 exact ⟨rfl,(Below.refl _ _).alloc (Nat.le_refl _) _⟩
end Go.Proofs.YtdianedehhecoaaGreatDoor