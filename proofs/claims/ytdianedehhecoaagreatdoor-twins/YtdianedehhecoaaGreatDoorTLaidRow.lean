/- The tables that the program reads, out of the condition that they are laid; the door meets it. -/
import Derived.Test.YtdianedehhecoaaGreatDoorTProgBegins
import Derived.LaidMore
import Derived.OpenShut
import Derived.ShutString
import Derived.ChangeOld
import Derived.Stop.Joined
import Derived.Lib.LaidTab
import Derived.SizedLaws
set_option linter.unusedVariables false
set_option linter.unusedSimpArgs false
set_option maxRecDepth 100000
namespace Go.Proofs.YtdianedehhecoaaGreatDoor
open Go.ChangeShapes Go.WideShapes Go.ChangeAt Go.RowKit
open Go.ChangeMaps (open_string shut_string)
theorem own:ownKnob Tryz.prog.godebug=none:=by kernel_rfl
theorem laidOut:laidOutB Tryz.prog=true:=by kernel_rfl
theorem trod_cell {H:Type}{enc:TypeId × Value→H}{w:World}{base:Nat}{sp:Nat→Bool}{held:Bool}{fuel:Nat}{cs:List Value}{a b:Int}{p:List MemPlace}
  (h:DataW.trod enc Tryz.prog w base sp held fuel 157 cs=some (.agg [.lit (.int .i64 a),.lit (.int .i64 b)],p)):cs=[.int .i64 a,.int .i64 b]:=by
 have ht:Tryz.prog.underlying 157=some (.struct (Tryz.prog.fieldsOf 157)):=by kernel_rfl
 obtain ⟨xs,m,rfl,hx,hlen,hn,hel⟩:=DataW.trod_struct ht h
 have c3:Tryz.prog.cellsOf 3=1:=by kernel_rfl
 have c57:Tryz.prog.cellsOf 157=2:=by kernel_rfl
 obtain ⟨f0,f1,h0,h1,t0,t1,o0,o1⟩:∃ f0 f1,(Tryz.prog.fieldsOf 157)[0]? = some f0∧(Tryz.prog.fieldsOf 157)[1]? = some f1∧f0.type=3∧f1.type=3∧f0.offset=0∧f1.offset=1 :=
  ⟨(Tryz.prog.fieldsOf 157)[0]!,(Tryz.prog.fieldsOf 157)[1]!,by kernel_rfl,by kernel_rfl,by kernel_rfl,by kernel_rfl,by kernel_rfl,by kernel_rfl⟩
 have e0:=hel 0 f0 h0
 have e1:=hel 1 f1 h1
 rw[t0,o0,c3]at e0
 rw[t1,o1,c3]at e1
 simp only[Prod.mk.injEq,DataW.agg.injEq]at hx
 rw[c57]at hlen
 match xs,cs,hlen,hx.1 with
 | [x0,x1],[v0,v1],_,hx1 =>
  simp only[List.map_cons,List.map_nil,List.cons.injEq,and_true]at hx1
  obtain ⟨n0,q0,r0,-⟩:=DataW.trod_int Tryz.underlying3 (show DataW.trod enc Tryz.prog w base sp held m 3 _=some x0 from e0)
  obtain ⟨n1,q1,r1,-⟩:=DataW.trod_int Tryz.underlying3 (show DataW.trod enc Tryz.prog w base sp held m 3 _=some x1 from e1)
  rw[r0,r1]at hx1
  simp at q0 q1 hx1
  rw[q0,q1,hx1.1,hx1.2]
theorem trod_corner {H:Type}{enc:TypeId × Value→H}{w:World}{base:Nat}{sp:Nat→Bool}{held:Bool}{fuel:Nat}{cs:List Value}{a b c d:Int}{p:List MemPlace}
  (h:DataW.trod enc Tryz.prog w base sp held fuel 159 cs=some (.agg [.agg [.lit (.int .i64 a),.lit (.int .i64 b)],.agg [.lit (.int .i64 c),.lit (.int .i64 d)]],p)):cs=[.int .i64 a,.int .i64 b,.int .i64 c,.int .i64 d]:=by
 have ht:Tryz.prog.underlying 159=some (.struct (Tryz.prog.fieldsOf 159)):=by kernel_rfl
 obtain ⟨xs,m,rfl,hx,hlen,hn,hel⟩:=DataW.trod_struct ht h
 have c57:Tryz.prog.cellsOf 157=2:=by kernel_rfl
 have c59:Tryz.prog.cellsOf 159=4:=by kernel_rfl
 obtain ⟨f0,f1,h0,h1,t0,t1,o0,o1⟩:∃ f0 f1,(Tryz.prog.fieldsOf 159)[0]? = some f0∧(Tryz.prog.fieldsOf 159)[1]? = some f1∧f0.type=157∧f1.type=157∧f0.offset=0∧f1.offset=2 :=
  ⟨(Tryz.prog.fieldsOf 159)[0]!,(Tryz.prog.fieldsOf 159)[1]!,by kernel_rfl,by kernel_rfl,by kernel_rfl,by kernel_rfl,by kernel_rfl,by kernel_rfl⟩
 have e0:=hel 0 f0 h0
 have e1:=hel 1 f1 h1
 rw[t0,o0,c57]at e0
 rw[t1,o1,c57]at e1
 simp only[Prod.mk.injEq,DataW.agg.injEq]at hx
 rw[c59]at hlen
 match xs,cs,hlen,hx.1 with
 | [x0,x1],[v0,v1,v2,v3],_,hx1 =>
  simp only[List.map_cons,List.map_nil,List.cons.injEq,and_true]at hx1
  obtain ⟨y0,p0⟩:=x0
  obtain ⟨y1,p1⟩:=x1
  simp only at hx1
  obtain ⟨rfl,rfl⟩:=hx1
  have g0:=trod_cell (show DataW.trod enc Tryz.prog w base sp held m 157 _=some (_,p0) from e0)
  have g1:=trod_cell (show DataW.trod enc Tryz.prog w base sp held m 157 _=some (_,p1) from e1)
  simp at g0 g1
  rw[g0.1,g0.2,g1.1,g1.2]
theorem trod_corners {H:Type}{enc:TypeId × Value→H}{w:World}{base:Nat}{sp:Nat→Bool}{held:Bool}{fuel:Nat}{cs:List Value}{p:List MemPlace}
  (h:DataW.trod enc Tryz.prog w base sp held fuel 160 cs=some (Rows.laid_garrison_rules_corners,p)) :
  cs=[.int .i64 0,.int .i64 0,.int .i64 1,.int .i64 1,.int .i64 7,.int .i64 7,.int .i64 6,.int .i64 6,.int .i64 7,.int .i64 0,.int .i64 6,.int .i64 1,.int .i64 0,.int .i64 7,.int .i64 1,.int .i64 6]:=by
 unfold Rows.laid_garrison_rules_corners at h
 have ht:Tryz.prog.underlying 160=some (.array 4 159):=by kernel_rfl
 obtain ⟨xs,m,rfl,hx,hlen,hn,hel⟩:=DataW.trod_array ht h
 have c59:Tryz.prog.cellsOf 159=4:=by kernel_rfl
 have c60:Tryz.prog.cellsOf 160=16:=by kernel_rfl
 have e0:=hel 0 (by decide)
 have e1:=hel 1 (by decide)
 have e2:=hel 2 (by decide)
 have e3:=hel 3 (by decide)
 rw[c59]at e0 e1 e2 e3
 simp only[Prod.mk.injEq,DataW.agg.injEq]at hx
 rw[c60]at hlen
 match xs,cs,hlen,hx.1 with
 | [x0,x1,x2,x3],[v0,v1,v2,v3,v4,v5,v6,v7,v8,v9,v10,v11,v12,v13,v14,v15],_,hx1 =>
  simp only[List.map_cons,List.map_nil,List.cons.injEq,and_true]at hx1
  obtain ⟨y0,p0⟩:=x0
  obtain ⟨y1,p1⟩:=x1
  obtain ⟨y2,p2⟩:=x2
  obtain ⟨y3,p3⟩:=x3
  simp only at hx1
  obtain ⟨rfl,rfl,rfl,rfl⟩:=hx1
  have g0:=trod_corner (show DataW.trod enc Tryz.prog w base sp held m 159 _=some (_,p0) from e0)
  have g1:=trod_corner (show DataW.trod enc Tryz.prog w base sp held m 159 _=some (_,p1) from e1)
  have g2:=trod_corner (show DataW.trod enc Tryz.prog w base sp held m 159 _=some (_,p2) from e2)
  have g3:=trod_corner (show DataW.trod enc Tryz.prog w base sp held m 159 _=some (_,p3) from e3)
  simp at g0 g1 g2 g3
  obtain ⟨rfl,rfl,rfl,rfl⟩:=g0
  obtain ⟨rfl,rfl,rfl,rfl⟩:=g1
  obtain ⟨rfl,rfl,rfl,rfl⟩:=g2
  obtain ⟨rfl,rfl,rfl,rfl⟩:=g3
  rfl
abbrev laid4 : List (String × DataW Unit) := [("math/bits.deBruijn32tab", Rows.laid_math_bits_deBruijn32tab), ("math/bits.deBruijn64tab", Rows.laid_math_bits_deBruijn64tab), ("internal/strconv.uint64pow10", Rows.laid_internal_strconv_uint64pow10), ("garrison/rules.corners", Rows.laid_garrison_rules_corners)]
theorem gBits : Tryz.prog.globalNamed "math/bits.deBruijn64tab" = some 4 := by kernel_rfl
theorem gCorners : Tryz.prog.globalNamed "garrison/rules.corners" = some 0 := by kernel_rfl
theorem tBits:(Tryz.prog.globals[4]?).map (·.type)=some 330:=by kernel_rfl
theorem tCorners:(Tryz.prog.globals[0]?).map (·.type)=some 160:=by kernel_rfl
theorem door_met (os:Os)(args:Array Value):laidMetH Tryz.prog laid4 ((World.doorLaid Tryz.prog 41 os).forCall (fun _ _=>0) ⟨#[],args,[]⟩).memory :=
 laidMetH_of_parts3 (fuel:=8) (laidMet_of_run' 8 (by kernel_rfl) (by kernel_rfl)) (by kernel_rfl) (by kernel_rfl)
def bits64:List Int:=[0,1,56,2,57,49,28,3,61,58,42,50,38,29,17,4,62,47,59,36,45,43,51,22,53,39,33,30,24,18,12,5,63,55,48,27,60,41,37,16,46,35,44,21,52,32,23,11,54,26,40,15,34,20,31,10,25,14,19,9,13,8,7,6]
theorem of_laid {W:World}(h:laidMetH Tryz.prog laid4 W):Corners W∧W.cell? ⟨4,15,none⟩=some (.int .u8 4):=by
 rw[MakeChecks.laidMetH_plain _ _ _ (by kernel_rfl)]at h
 obtain ⟨ps,⟨g0,t0,cs0,f0,p0,q0,hg0,ht0,hv0,hd0,⟨g1,t1,cs1,f1,p1,q1,hg1,ht1,hv1,hd1,⟨g2,t2,cs2,f2,p2,q2,hg2,ht2,hv2,hd2,⟨g3,t3,cs3,f3,p3,q3,hg3,ht3,hv3,hd3,_,_⟩,_⟩,_⟩,_⟩,_,_⟩:=h
 obtain rfl:=Option.some.inj (gBits.symm.trans hg1)
 obtain rfl:=Option.some.inj (gCorners.symm.trans hg3)
 obtain rfl:=Option.some.inj (tBits.symm.trans ht1)
 obtain rfl:=Option.some.inj (tCorners.symm.trans ht3)
 have hc3:=trod_corners hd3
 have hc1:=Lib.cells_of_tab (k:=.u8) (zs:=bits64) (show Tryz.prog.underlying 330=some (.array 64 5) by kernel_rfl) Tryz.underlying5 (by kernel_rfl) (by kernel_rfl) hd1
 have e3:cs3=#[.int .i64 0,.int .i64 0,.int .i64 1,.int .i64 1,.int .i64 7,.int .i64 7,.int .i64 6,.int .i64 6,.int .i64 7,.int .i64 0,.int .i64 6,.int .i64 1,.int .i64 0,.int .i64 7,.int .i64 1,.int .i64 6]:=Array.toList_inj.1 hc3
 have e1:cs1=(bits64.map fun z=>Value.int .u8 z).toArray:=Array.toList_inj.1 hc1
 subst e3 e1
 refine ⟨fun p hp=>?_,?_⟩
 ·have hv:=World.var?_cell hg3 hv3
  have hcs:p=0∨p=1∨p=2∨p=3:=by omega
  rcases hcs with rfl|rfl|rfl|rfl
  ·exact ⟨hv 0,hv 1,hv 2,hv 3⟩
  ·exact ⟨hv 4,hv 5,hv 6,hv 7⟩
  ·exact ⟨hv 8,hv 9,hv 10,hv 11⟩
  ·exact ⟨hv 12,hv 13,hv 14,hv 15⟩
 ·exact World.var?_cell hg1 hv1 15
end Go.Proofs.YtdianedehhecoaaGreatDoor