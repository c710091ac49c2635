/- The program's playersIn and Over. -/
import Derived.Test.YtdianedehhecoaaGreatDoorTProgReads
set_option linter.unusedVariables false
set_option linter.unusedSimpArgs false
set_option maxHeartbeats 8000000
set_option maxRecDepth 100000
namespace Go.Proofs.YtdianedehhecoaaGreatDoor
open Go.RowKit
def isBase (p:Int)(u:PU):Bool:=(u.kind == 1) && (u.own == p)
def inP (us:List PU)(p:Int):Bool:=us.any (isBase p)
def inCells (us:List PU):List Value:=[.bool (inP us 0),.bool (inP us 1),.bool (inP us 2),.bool (inP us 3)]
theorem takeP_succ (us:List PU)(k:Nat)(hk:k<us.length):us.take (k+1)=us.take k++[us.getD k pu0]:=by
 rw[List.take_succ_eq_append_getElem hk];simp[List.getD,List.getElem?_eq_getElem hk]
theorem inP_snoc (us:List PU)(u:PU)(p:Int):inP (us++[u]) p=(inP us p || isBase p u):=by
 unfold inP;simp
theorem inCells_set (us:List PU)(u:PU)(a:Nat)(ha:a<4)(ho:u.own=a)(hk:u.kind=1):(inCells us).set a (.bool true)=inCells (us++[u]):=by
 have h:∀ p:Int,isBase p u=decide ((a:Int)=p):=fun p=>by unfold isBase;rw[ho,hk];simp;rfl
 unfold inCells
 simp only[inP_snoc,h]
 have hc:a=0∨a=1∨a=2∨a=3:=by omega
 rcases hc with rfl|rfl|rfl|rfl<;>simp
theorem inCells_other (us:List PU)(u:PU)(hk:(u.kind == 1)=false):inCells (us++[u])=inCells us:=by
 have h:∀ p:Int,isBase p u=false:=fun p=>by unfold isBase;rw[hk];rfl
 unfold inCells
 simp only[inP_snoc,h,Bool.or_false]
theorem playersIn_any {w:World}{O:Nat→Prop}{b g:Nat}{S:PS}{gv uv:Value}{bs:List Nat}(h:PAt w O b S gv uv bs)(hob:uv.ownBlock=some g)(hn:S.units.length≤1000)(ho:∀ i,i<S.units.length→0≤(S.units.getD i pu0).own∧(S.units.getD i pu0).own<4) :
  Calls Pz.prog 79 #[.pointer (some ⟨b,0,none⟩)] w fun e w'=>e=.returned (.agg #[.bool (inP S.units 0),.bool (inP S.units 1),.bool (inP S.units 2),.bool (inP S.units 3)])∧Below w.heap.size w w':=by
 obtain ⟨cap,rfl,-,hc⟩:=h.unit hob
 have hu:=h.cUnits
 have heach:=(show Hid _ from h.each)
 have hk:=(show Hid _ from h.kinds)
 have Ho:=(show Hid _ from ho)
 have hgl:=h.units.lt hob
 have hbb:=h.st.lt
 have Hc:=(show Hid _ from hc)
 generalize S.units=us at *
 clear h hob hc ho
 go_enter Pz.func79,Tryz.ntmps79
 go_wp2
 go_loopw [12] (fun i wr=>∃ k:Nat,k≤us.length∧i=.int .i64 k∧BlkAt wr (w.heap.size+1) (inCells (us.take k)) 162∧BlkAt wr w.heap.size [.bool false,.bool false,.bool false,.bool false] 162∧Below w.heap.size w wr) (fun i _=>us.length-(intOf i).toNat)
 case atStart =>
  refine ⟨0,Nat.zero_le _,rfl,?_,?_,((Below.refl _ _).alloc (Nat.le_refl _) _).alloc (by simp) _⟩
  ·have:=BlkAt.new (w.alloc (.cells #[.bool false,.bool false,.bool false,.bool false] 162)) [.bool false,.bool false,.bool false,.bool false] 162
   simpa [inCells,inP] using this
  ·exact (BlkAt.new w [.bool false,.bool false,.bool false,.bool false] 162).alloc _
 case round =>
  obtain ⟨k,hkl,rfl,hin,hres,hbel⟩:=hrel
  by_cases hlt:k<us.length
  ·have hcell:=(hbel.cell (p:=⟨g,k,none⟩) hgl).trans (Hc.out k hlt)
   have hb:=heach.out k hlt
   have hm:=meth_any _ (hk.out k hlt) (bs.getD k 0)
   have c1:=(hbel.cell (p:=⟨bs.getD k 0,1,none⟩) hb.lt).trans (hb.cell (v:=.int .i64 (us.getD k pu0).own) rfl)
   have c2:=(hbel.cell (p:=⟨bs.getD k 0,2,none⟩) hb.lt).trans (hb.cell (v:=.int .i64 (us.getD k pu0).kind) rfl)
   obtain ⟨o1,o2⟩:=Ho.out k hlt
   have HT:=(show Hid _ from takeP_succ us k hlt)
   unfold uVal at hcell
   have Hbel:Hid (Below w.heap.size w wr):=hbel
   have Hin:Hid (BlkAt wr (w.heap.size+1) (inCells (us.take k)) 162):=hin
   have Hres:Hid (BlkAt wr w.heap.size [.bool false,.bool false,.bool false,.bool false] 162):=hres
   clear hb hbel hin hres
   generalize us.getD k pu0=u at *
   generalize bs.getD k 0=ub at *
   generalize ptrT u.kind=T at *
   obtain ⟨a,ha⟩:=Int.eq_ofNat_of_zero_le o1
   have ha4:a<4:=by omega
   have ha4i:(a:Int)<4:=by omega
   have HA:Hid (u.own=(a:Int)):=ha
   rw[ha]at c1
   clear ha o1 o2
   by_cases hkd:u.kind=1
   ·have hbe:(u.kind == 1)=true:=by simp[hkd]
    have HK:Hid (u.kind=1):=hkd
    clear hkd
    obtain ⟨vv,cv⟩:∃ vv,wr.cell? ⟨w.heap.size+1,a,none⟩=some (.bool vv):=by
     have hcs:a=0∨a=1∨a=2∨a=3:=by omega
     rcases hcs with rfl|rfl|rfl|rfl
     ·exact ⟨_,Hin.out.cell rfl⟩
     ·exact ⟨_,Hin.out.cell rfl⟩
     ·exact ⟨_,Hin.out.cell rfl⟩
     ·exact ⟨_,Hin.out.cell rfl⟩
    have fv:=Hin.out.free a
    go_wp2
    go_roundw
    case rel =>
     go_light
     refine ⟨k+1,by omega,by go_num,?_,Hres.out.other (by omega),bel_set Hbel.out (by omega)⟩
     rw[HT.out,← inCells_set (us.take k) u a ha4 HA.out HK.out]
     exact Hin.out.set a _
    case measure=>simp[intOf];omega
   ·have hbe:(u.kind == 1)=false:=by simp[hkd]
    have HK:=(show Hid _ from inCells_other (us.take k) u hbe)
    clear hkd
    go_wp2
    go_roundw
    case rel =>
     go_light
     refine ⟨k+1,by omega,by go_num,?_,Hres.out,Hbel.out⟩
     rw[HT.out,HK.out]
     exact Hin.out
    case measure=>simp[intOf];omega
  ·have hT:us.take k=us:=List.take_of_length_le (by omega)
   rw[hT]at hin
   have i0:=hin.cell (i:=0) rfl
   have i1:=hin.cell (i:=1) rfl
   have i2:=hin.cell (i:=2) rfl
   have i3:=hin.cell (i:=3) rfl
   have r0:=hres.cell (i:=0) rfl
   have r1:=hres.cell (i:=1) rfl
   have r2:=hres.cell (i:=2) rfl
   have r3:=hres.cell (i:=3) rfl
   have f0:=hres.free 0
   have f1:=hres.free 1
   have f2:=hres.free 2
   have f3:=hres.free 3
   have Hbel:Hid (Below w.heap.size w wr):=hbel
   clear hbel hT
   go_wp2
   refine bodyPost_ret (v:=.agg #[.bool (inP us 0),.bool (inP us 1),.bool (inP us 2),.bool (inP us 3)]) (by simp only[results,Tryz.results79];go_simp) rfl ⟨rfl,?_⟩
   (repeat first|with_reducible exact Hbel.out|with_reducible refine Below.drew ?_|with_reducible refine bel_set ?_ (Nat.le_refl _)|with_reducible refine bel_alloc ?_ (by simp;omega))
end Go.Proofs.YtdianedehhecoaaGreatDoor
/- The program's Over. -/
namespace Go.Proofs.YtdianedehhecoaaGreatDoor
open Go.RowKit
def cnt (b:Bool):Nat:=if b then 1 else 0
def overP (us:List PU):Bool:=decide (cnt (inP us 0)+cnt (inP us 1)+cnt (inP us 2)+cnt (inP us 3)≤1)
theorem POver_any {w:World}{O:Nat→Prop}{b g:Nat}{S:PS}{gv uv:Value}{bs:List Nat}(h:PAt w O b S gv uv bs)(hob:uv.ownBlock=some g)(hn:S.units.length≤1000)(ho:∀ i,i<S.units.length→0≤(S.units.getD i pu0).own∧(S.units.getD i pu0).own<4) :
  Calls Pz.prog 39 #[.pointer (some ⟨b,0,none⟩)] w fun e w'=>e=.returned (.bool (overP S.units))∧Below w.heap.size w w':=by
 have HP:=(show Hid _ from playersIn_any h hob hn ho)
 have HO:Hid (overP S.units=decide (cnt (inP S.units 0)+cnt (inP S.units 1)+cnt (inP S.units 2)+cnt (inP S.units 3)≤1)):=rfl
 clear h ho
 generalize inP S.units 0=b0 at *
 generalize inP S.units 1=b1 at *
 generalize inP S.units 2=b2 at *
 generalize inP S.units 3=b3 at *
 have k0:∀ W,(Instr.index 162 (.agg #[.bool b0,.bool b1,.bool b2,.bool b3]) (.int .i64 0)).run Pz.prog W=.ok (.bool b0) W:=fun _=>by kernel_rfl
 have k1:∀ W,(Instr.index 162 (.agg #[.bool b0,.bool b1,.bool b2,.bool b3]) (.int .i64 1)).run Pz.prog W=.ok (.bool b1) W:=fun _=>by kernel_rfl
 have k2:∀ W,(Instr.index 162 (.agg #[.bool b0,.bool b1,.bool b2,.bool b3]) (.int .i64 2)).run Pz.prog W=.ok (.bool b2) W:=fun _=>by kernel_rfl
 have k3:∀ W,(Instr.index 162 (.agg #[.bool b0,.bool b1,.bool b2,.bool b3]) (.int .i64 3)).run Pz.prog W=.ok (.bool b3) W:=fun _=>by kernel_rfl
 go_enter Pz.func39,Tryz.ntmps39
 go_wp2_with fail
 refine Calls.mono HP.out ?_
 rintro e w1 ⟨rfl,hb1⟩
 cases b0<;>cases b1<;>cases b2<;>cases b3
 all_goals
  go_wp2
  refine wp_loop_rounds 5 ?_
  rw[rounds_succ];go_wp2
  rw[rounds_succ];go_wp2
  rw[rounds_succ];go_wp2
  rw[rounds_succ];go_wp2
  rw[rounds_succ];go_wp2
  go_ret
  exact ⟨by rw[HO.out];rfl,hb1⟩
end Go.Proofs.YtdianedehhecoaaGreatDoor
/- The program's Winner. -/
namespace Go.Proofs.YtdianedehhecoaaGreatDoor
open Go.RowKit
def firstB (b0 b1 b2 b3:Bool):Int:=if b0 then 0 else if b1 then 1 else if b2 then 2 else if b3 then 3 else -1
def winP (us:List PU):Int:=if overP us then firstB (inP us 0) (inP us 1) (inP us 2) (inP us 3) else -1
theorem indexB_four {w:World}{vb:Nat}{b0 b1 b2 b3:Bool}(h:BlkAt w vb [.bool b0,.bool b1,.bool b2,.bool b3] 162) :
  Calls Pz.prog 156 #[.slice (some ⟨vb,0,none⟩) 4 4,.bool true] w fun e w'=>e=.returned (.int .i64 (firstB b0 b1 b2 b3))∧w'=w:=by
 have c0:w.cell? ⟨vb,0,none⟩=some (.bool b0):=h.cell rfl
 have c1:w.cell? ⟨vb,1,none⟩=some (.bool b1):=h.cell rfl
 have c2:w.cell? ⟨vb,2,none⟩=some (.bool b2):=h.cell rfl
 have c3:w.cell? ⟨vb,3,none⟩=some (.bool b3):=h.cell rfl
 clear h
 go_enter Pz.func156,Tryz.ntmps156
 go_wp2
 cases b0
 ·refine wp_loop_rounds 5 ?_
  rw[rounds_succ];go_wp2
  cases b1
  ·rw[rounds_succ];go_wp2
   cases b2
   ·rw[rounds_succ];go_wp2
    cases b3
    ·rw[rounds_succ];go_wp2
     rw[rounds_succ];go_wp2
     go_ret
     exact ⟨rfl,rfl⟩
    ·rw[rounds_succ];go_wp2
     go_ret
     exact ⟨rfl,rfl⟩
   ·rw[rounds_succ];go_wp2
    go_ret
    exact ⟨rfl,rfl⟩
  ·rw[rounds_succ];go_wp2
   go_ret
   exact ⟨rfl,rfl⟩
 ·refine wp_loop_rounds 1 ?_
  rw[rounds_succ];go_wp2
  go_ret
  exact ⟨rfl,rfl⟩
theorem PWinner_any {w:World}{O:Nat→Prop}{b g:Nat}{S:PS}{gv uv:Value}{bs:List Nat}(h:PAt w O b S gv uv bs)(hob:uv.ownBlock=some g)(hn:S.units.length≤1000)(ho:∀ i,i<S.units.length→0≤(S.units.getD i pu0).own∧(S.units.getD i pu0).own<4) :
  Calls Pz.prog 93 #[.pointer (some ⟨b,0,none⟩)] w fun e w'=>e=.returned (.int .i64 (winP S.units))∧Below w.heap.size w w':=by
 have HO:=(show Hid _ from POver_any h hob hn ho)
 have HP:Hid (∀ W,Below w.heap.size w W→Calls Pz.prog 79 #[.pointer (some ⟨b,0,none⟩)] W fun e w'=>e=.returned (.agg #[.bool (inP S.units 0),.bool (inP S.units 1),.bool (inP S.units 2),.bool (inP S.units 3)])∧Below w.heap.size w w'):=fun W hW=>(playersIn_any (h.below hW) hob hn ho).mono fun e w' ⟨he,hb⟩=>⟨he,hW.trans (hb.mono hW.size)⟩
 have HW:Hid (winP S.units=if overP S.units then firstB (inP S.units 0) (inP S.units 1) (inP S.units 2) (inP S.units 3) else -1):=rfl
 clear h ho
 generalize winP S.units=wv at *
 generalize overP S.units=ov at *
 generalize inP S.units 0=b0 at *
 generalize inP S.units 1=b1 at *
 generalize inP S.units 2=b2 at *
 generalize inP S.units 3=b3 at *
 go_enter Pz.func93,Tryz.ntmps93
 cases ov
 ·go_wp2_with (go_at_call 39;refine Calls.mono HO.out ?_;rintro e w2 ⟨rfl,hb2⟩)
  go_ret
  exact ⟨by rw[HW.out];rfl,hb2⟩
 ·go_wp2_with (first
   | (go_at_call 39;refine Calls.mono HO.out ?_;rintro e w2 ⟨rfl,hb2⟩)
   | (go_at_call 79;refine Calls.mono (HP.out _ hb2) ?_;rintro e w3 ⟨rfl,hb3⟩)
   | (go_at_call 156;refine Calls.mono (indexB_four (BlkAt.new w3 [.bool b0,.bool b1,.bool b2,.bool b3] 162)) ?_;rintro e w4 ⟨rfl,rfl⟩))
  go_ret
  exact ⟨by rw[HW.out];rfl,hb3.alloc hb3.size _⟩
end Go.Proofs.YtdianedehhecoaaGreatDoor