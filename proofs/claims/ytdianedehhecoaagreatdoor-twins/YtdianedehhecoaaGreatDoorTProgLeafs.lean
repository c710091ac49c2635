/- The program's leaves: MayBegin, firstOre, near, onField, neighbours, GivesUp, new units. -/
import Derived.Test.YtdianedehhecoaaGreatDoorTProgReads
import Derived.Test.YtdianedehhecoaaGreatDoorTRefPure
set_option linter.unusedVariables false
set_option linter.unusedSimpArgs false
set_option maxHeartbeats 4000000
set_option maxRecDepth 100000
namespace Go.Proofs.YtdianedehhecoaaGreatDoor
open Go.RowKit
theorem MayBegin_any (s p:Int)(w:World) :
  Calls Pz.prog 36 #[.int .i64 s,.int .i64 p] w fun e w'=>e=.returned (.bool (mayB s p))∧w'=w:=by
 go_enter Pz.func36,Tryz.ntmps36
 go_wp2
 all_goals go_ret
 all_goals exact ⟨ret_bool (by unfold mayB;rw[Bool.eq_iff_iff];simp;omega),rfl⟩
theorem pnear_any (a b:Int)(w:World)(h0:0≤a)(h1:a≤1000)(h2:0≤b)(h3:b≤1000) :
  Calls Pz.prog 186 #[.int .i64 a,.int .i64 b] w fun e w'=>e=.returned (.bool (decide (a-b≤1∧b-a≤1)))∧w'=w:=by
 go_enter Pz.func186,Tryz.ntmps186
 go_wp2
 all_goals go_ret
 all_goals exact ⟨ret_bool (by rw[Bool.eq_iff_iff];simp;omega),rfl⟩
def fieldB (x y:Int):Bool:=decide (0≤x∧x≤7∧0≤y∧y≤7)
theorem onField_any (x y:Int)(w:World) :
  Calls Pz.prog 141 #[.agg #[.int .i64 x,.int .i64 y]] w fun e w'=>e=.returned (.bool (fieldB x y))∧Below w.heap.size w w':=by
 go_enter Pz.func141,Tryz.ntmps141
 go_wp2
 all_goals go_ret
 all_goals go_light
 all_goals exact ⟨ret_bool (by unfold fieldB;rw[Bool.eq_iff_iff];simp;omega),(Below.refl _ _).alloc (Nat.le_refl _) _⟩
theorem firstOre_any (seed x y:Int)(w:World)(s0:0≤seed)(s1:seed≤999)(x0:0≤x)(x1:x≤7)(y0:0≤y)(y1:y≤7) :
  Calls Pz.prog 75 #[.int .i64 seed,.int .i64 x,.int .i64 y] w fun e w'=>e=.returned (.int .i64 (max 0 ((seed+3*x+5*y+x*y) % 7-3)))∧w'=w:=by
 have hm0:0≤x*y:=Int.mul_nonneg x0 y0
 have hm1:x*y≤49:=by
  have:=Int.mul_le_mul x1 y1 y0 (by omega:(0:Int)≤7)
  omega
 go_enter Pz.func75,Tryz.ntmps75
 go_wp2
 all_goals go_ret
 all_goals exact ⟨ret_int (by rw[Int.max_def];split<;>omega),rfl⟩
theorem newBase_any (num own x y kd hp:Int)(ac:Bool)(w:World) :
  Calls Pz.prog 77 #[.agg #[.int .i64 num,.int .i64 own,.int .i64 kd,.int .i64 x,.int .i64 y,.int .i64 hp,.bool ac]] w fun e w'=>e=.returned (uVal ⟨num,own,1,x,y,20,ac⟩ (w.heap.size+1)) ∧
   (w'.heap.size=w.heap.size+2∧BlkAt w' (w.heap.size+1) (PU.cells ⟨num,own,1,x,y,20,ac⟩) (strT 1))∧Below w.heap.size w w':=by
 go_enter Pz.func77,Tryz.ntmps77
 go_wp2
 go_ret
 go_light
 refine ⟨rfl,⟨by simp,?_⟩,((Below.refl _ _).alloc (Nat.le_refl _) _).alloc (by simp) _⟩
 have:=BlkAt.new (w.alloc (.cells #[.int .i64 num,.int .i64 own,.int .i64 1,.int .i64 x,.int .i64 y,.int .i64 20,.bool ac] 167)) (PU.cells ⟨num,own,1,x,y,20,ac⟩) (strT 1)
 simpa [PU.cells,strT] using this
theorem newWorker_any (num own x y kd hp:Int)(ac:Bool)(w:World) :
  Calls Pz.prog 78 #[.agg #[.int .i64 num,.int .i64 own,.int .i64 kd,.int .i64 x,.int .i64 y,.int .i64 hp,.bool ac]] w fun e w'=>e=.returned (uVal ⟨num,own,2,x,y,5,ac⟩ (w.heap.size+1)) ∧
   (w'.heap.size=w.heap.size+2∧BlkAt w' (w.heap.size+1) (PU.cells ⟨num,own,2,x,y,5,ac⟩) (strT 2))∧Below w.heap.size w w':=by
 go_enter Pz.func78,Tryz.ntmps78
 go_wp2
 go_ret
 go_light
 refine ⟨rfl,⟨by simp,?_⟩,((Below.refl _ _).alloc (Nat.le_refl _) _).alloc (by simp) _⟩
 have:=BlkAt.new (w.alloc (.cells #[.int .i64 num,.int .i64 own,.int .i64 2,.int .i64 x,.int .i64 y,.int .i64 5,.bool ac] 167)) (PU.cells ⟨num,own,2,x,y,5,ac⟩) (strT 2)
 simpa [PU.cells,strT] using this
theorem newSoldier_any (num own x y kd hp:Int)(ac:Bool)(w:World) :
  Calls Pz.prog 262 #[.agg #[.int .i64 num,.int .i64 own,.int .i64 kd,.int .i64 x,.int .i64 y,.int .i64 hp,.bool ac]] w fun e w'=>e=.returned (uVal ⟨num,own,3,x,y,8,ac⟩ (w.heap.size+1)) ∧
   (w'.heap.size=w.heap.size+2∧BlkAt w' (w.heap.size+1) (PU.cells ⟨num,own,3,x,y,8,ac⟩) (strT 3))∧Below w.heap.size w w':=by
 go_enter Pz.func262,Tryz.ntmps262
 go_wp2
 go_ret
 go_light
 refine ⟨rfl,⟨by simp,?_⟩,((Below.refl _ _).alloc (Nat.le_refl _) _).alloc (by simp) _⟩
 have:=BlkAt.new (w.alloc (.cells #[.int .i64 num,.int .i64 own,.int .i64 3,.int .i64 x,.int .i64 y,.int .i64 8,.bool ac] 167)) (PU.cells ⟨num,own,3,x,y,8,ac⟩) (strT 3)
 simpa [PU.cells,strT] using this
end Go.Proofs.YtdianedehhecoaaGreatDoor
/- The program's neighbours and GivesUp. -/
namespace Go.Proofs.YtdianedehhecoaaGreatDoor
open Go.RowKit
theorem cellNeq (a b c d:Int)(W:World):(binOp .neq 157 (.agg #[.int .i64 a,.int .i64 b]) (.agg #[.int .i64 c,.int .i64 d])).run Pz.prog W=.ok (.bool (!((a == c) && (b == d)))) W:=by
  have h1:Pz.prog.underlying 157=some (.struct (Pz.prog.fieldsOf 157)):=by kernel_rfl
  have h2:Pz.prog.stoodInHeld 157=false:=by kernel_rfl
  obtain ⟨f1, f2, hf, t1, t2, o1, o2, m1, m2⟩ : ∃ f1 f2, (Pz.prog.fieldsOf 157).toList = [f1, f2] ∧ f1.type = 3 ∧ f2.type = 3 ∧ f1.offset = 0 ∧ f2.offset = 1 ∧ f1.name ≠ "_" ∧ f2.name ≠ "_" :=
    ⟨(Pz.prog.fieldsOf 157).toList[0]!,(Pz.prog.fieldsOf 157).toList[1]!,by kernel_rfl,by kernel_rfl,by kernel_rfl,by kernel_rfl,by kernel_rfl,by decide +kernel,by decide +kernel⟩
  rw[run_neq_struct,run_equalIn_struct W 9999 _ _ _ h1 h2,hf]
  simp[Op.eqFields,m1,m2,t1,t2,o1,o2,go_sem]
  by_cases h:a=c<;>by_cases h':b=d<;>simp[h,h']
def nbB (a b c d:Int):Bool:=decide (¬ (a=c∧b=d)∧a-c≤1∧c-a≤1∧b-d≤1∧d-b≤1)
theorem neighbours_any (a b c d:Int)(w:World)(a0:0≤a)(a1:a≤1000)(b0:0≤b)(b1:b≤1000)(c0:0≤c)(c1:c≤1000)(d0:0≤d)(d1:d≤1000) :
  Calls Pz.prog 142 #[.agg #[.int .i64 a,.int .i64 b],.agg #[.int .i64 c,.int .i64 d]] w fun e w'=>e=.returned (.bool (nbB a b c d))∧Below w.heap.size w w':=by
 have hq:=cellNeq a b c d
 have hg:=cellGuard
 by_cases hs:a=c∧b=d
 ·have hb:((a == c) && (b == d))=true:=by simp[hs]
  have HN:Hid (nbB a b c d=false):=by unfold Hid nbB;simp[hs]
  rw[hb]at hq
  clear hs hb
  go_enter Pz.func142,Tryz.ntmps142
  go_wp2_with (go_at_call 186;refine (pnear_any _ _ _ (by omega) (by omega) (by omega) (by omega)).mono ?_;rintro e w1 ⟨rfl,hw⟩;rw[hw];clear hw w1)
  go_ret
  exact ⟨by rw[HN.out];rfl,((Below.refl _ _).alloc (Nat.le_refl _) _).alloc (by simp) _⟩
 ·have hb:((a == c) && (b == d))=false:=by
   rw[Bool.eq_false_iff];intro e;simp at e;exact hs e
  have HN:Hid (nbB a b c d=(decide (a-c≤1∧c-a≤1) && decide (b-d≤1∧d-b≤1))):=by
   unfold Hid nbB;rw[Bool.eq_iff_iff];simp;omega
  rw[hb]at hq
  clear hs hb
  cases n1:decide (a-c≤1∧c-a≤1)
  ·have N1:Hid (decide (a-c≤1∧c-a≤1)=false):=n1
   rw[n1]at HN
   clear n1
   go_enter Pz.func142,Tryz.ntmps142
   go_wp2_with fail
   refine (pnear_any a c _ a0 a1 c0 c1).mono ?_
   rintro e w1 ⟨rfl,hw⟩
   rw[hw,N1.out];clear hw w1
   go_wp2
   go_ret
   exact ⟨by rw[HN.out];rfl,((Below.refl _ _).alloc (Nat.le_refl _) _).alloc (by simp) _⟩
  ·have N1:Hid (decide (a-c≤1∧c-a≤1)=true):=n1
   rw[n1]at HN
   clear n1
   go_enter Pz.func142,Tryz.ntmps142
   go_wp2_with fail
   refine (pnear_any a c _ a0 a1 c0 c1).mono ?_
   rintro e w1 ⟨rfl,hw⟩
   rw[hw,N1.out];clear hw w1
   go_wp2_with fail
   refine (pnear_any b d _ b0 b1 d0 d1).mono ?_
   rintro e w1 ⟨rfl,hw⟩
   rw[hw];clear hw w1
   generalize decide (b-d≤1∧d-b≤1)=nn at *
   go_wp2
   go_ret
   exact ⟨by rw[HN.out];rfl,((Below.refl _ _).alloc (Nat.le_refl _) _).alloc (by simp) _⟩
end Go.Proofs.YtdianedehhecoaaGreatDoor
/- The program's GivesUp. -/
namespace Go.Proofs.YtdianedehhecoaaGreatDoor
open Go.RowKit
theorem eqStep (d i : Nat) (xs ys : Array Value) (f : Field) (fs : List Field) (a b : Int) (W : World) (ht : f.type = 3) (ho : f.offset = i) (hn : f.name ≠ "_") (hx : xs[i]? = some (.int .i64 a)) (hy : ys[i]? = some (.int .i64 b)) :
    (Op.eqFields (d+1) xs ys (f :: fs)).run Pz.prog W=if (a == b)=true then (Op.eqFields (d+1) xs ys fs).run Pz.prog W else .ok false W:=by
  have hi:Pz.prog.underlying 3=some (.int .i64):=by kernel_rfl
  simp only[Op.eqFields,if_pos hn,Sem.run_bind,ht,ho]
  have p1:∀ (zs:Array Value) (c:Int),zs[i]? = some (.int .i64 c)→(part 3 zs i).run Pz.prog W=.ok (.int .i64 c) W:=by
    intro zs c hz
    simp[part,hz,go_sem]
  rw[p1 xs a hx]
  simp only[Result.andThen_ok]
  rw[p1 ys b hy]
  simp only[Result.andThen_ok,run_equalIn_int W d 3 .i64 .i64 a b hi]
  cases a == b<;>simp
theorem commGuard:Pz.prog.eqGuardType Pz.prog.depth 171=false:=by kernel_rfl
theorem commEq (p a b c d q a' b' c' d':Int)(W:World):(binOp .eql 171 (.agg #[.int .i64 p,.int .i64 a,.int .i64 b,.int .i64 c,.int .i64 d]) (.agg #[.int .i64 q,.int .i64 a',.int .i64 b',.int .i64 c',.int .i64 d'])).run Pz.prog W=.ok (.bool ((p == q) && (a == a') && (b == b') && (c == c') && (d == d'))) W:=by
  have h1:Pz.prog.underlying 171=some (.struct (Pz.prog.fieldsOf 171)):=by kernel_rfl
  have h2:Pz.prog.stoodInHeld 171=false:=by kernel_rfl
  obtain ⟨f1,f2,f3,f4,f5,hf,t1,t2,t3,t4,t5,o1,o2,o3,o4,o5,m1,m2,m3,m4,m5⟩:∃ f1 f2 f3 f4 f5,(Pz.prog.fieldsOf 171).toList=[f1,f2,f3,f4,f5]∧f1.type=3∧f2.type=3∧f3.type=3∧f4.type=3∧f5.type=3 ∧
      f1.offset = 0 ∧ f2.offset = 1 ∧ f3.offset = 2 ∧ f4.offset = 3 ∧ f5.offset = 4 ∧ f1.name ≠ "_" ∧ f2.name ≠ "_" ∧ f3.name ≠ "_" ∧ f4.name ≠ "_" ∧ f5.name ≠ "_" :=
    ⟨(Pz.prog.fieldsOf 171).toList[0]!,(Pz.prog.fieldsOf 171).toList[1]!,(Pz.prog.fieldsOf 171).toList[2]!,(Pz.prog.fieldsOf 171).toList[3]!,(Pz.prog.fieldsOf 171).toList[4]!,
      by kernel_rfl,by kernel_rfl,by kernel_rfl,by kernel_rfl,by kernel_rfl,by kernel_rfl,by kernel_rfl,by kernel_rfl,by kernel_rfl,by kernel_rfl,by kernel_rfl,by decide +kernel,by decide +kernel,by decide +kernel,by decide +kernel,by decide +kernel⟩
  rw[run_eql_struct,run_equalIn_struct W 9999 _ _ _ h1 h2,hf]
  rw[eqStep 9998 0 _ _ f1 _ p q W t1 o1 m1 rfl rfl,eqStep 9998 1 _ _ f2 _ a a' W t2 o2 m2 rfl rfl,eqStep 9998 2 _ _ f3 _ b b' W t3 o3 m3 rfl rfl,eqStep 9998 3 _ _ f4 _ c c' W t4 o4 m4 rfl rfl,eqStep 9998 4 _ _ f5 _ d d' W t5 o5 m5 rfl rfl]
  have e0:∀ (xs ys:Array Value),(Op.eqFields (9998+1) xs ys []).run Pz.prog W=.ok true W:=fun _ _=>rfl
  rw[e0]
  cases (p == q)<;>cases (a == a')<;>cases (b == b')<;>cases (c == c')<;>cases (d == d')<;>rfl
def gvB (un wh x y:Int):Bool:=(un == 0) && (wh == 0) && (x == 0) && (y == 0)
theorem GivesUp_any (p un wh x y:Int)(w:World) :
  Calls Pz.prog 138 #[.agg #[.int .i64 p,.int .i64 un,.int .i64 wh,.int .i64 x,.int .i64 y]] w fun e w'=>e=.returned (.bool (gvB un wh x y))∧Below w.heap.size w w':=by
 have hq:=commEq p un wh x y p 0 0 0 0
 have hpp:(p == p)=true:=by simp
 rw[hpp,Bool.true_and]at hq
 have HG:Hid (gvB un wh x y=((un == 0) && (wh == 0) && (x == 0) && (y == 0))):=rfl
 generalize ((un == 0) && (wh == 0) && (x == 0) && (y == 0))=r at *
 have hg:=commGuard
 clear hpp
 go_enter Pz.func138,Tryz.ntmps138
 go_wp2
 go_ret
 exact ⟨by rw[HG.out];rfl,(Below.refl _ _).alloc (Nat.le_refl _) _⟩
end Go.Proofs.YtdianedehhecoaaGreatDoor