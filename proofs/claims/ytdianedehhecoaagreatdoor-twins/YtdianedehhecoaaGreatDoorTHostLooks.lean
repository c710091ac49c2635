/- Look at a match that goes, of which nothing is done yet. -/
import Derived.Test.YtdianedehhecoaaGreatDoorTMatchAts
import Derived.Test.YtdianedehhecoaaGreatDoorTKeeps
import Derived.Laws.ResultCell
set_option linter.unusedVariables false
set_option linter.unusedSimpArgs false
set_option maxHeartbeats 16000000
set_option maxRecDepth 20000
namespace Go.Proofs.YtdianedehhecoaaGreatDoor
open Go.RowKit Go.MuLone
def viewZ:List Value:=[.int .i64 0,.bool false,.int .i64 0,.int .i64 0,.int .i64 0,.int .i64 0]
def ViewAt (w:World)(vb:Nat):Prop :=
 w.cell? ⟨vb,0,none⟩=some (.int .i64 0)∧w.cell? ⟨vb,1,none⟩=some (.bool false)∧w.cell? ⟨vb,2,none⟩=some (.int .i64 0)∧w.cell? ⟨vb,3,none⟩=some (.int .i64 0)∧w.cell? ⟨vb,4,none⟩=some (.int .i64 0)∧w.cell? ⟨vb,5,none⟩=some (.int .i64 0) ∧
 w.frozen? ⟨vb,0,none⟩=false∧w.frozen? ⟨vb,1,none⟩=false∧w.frozen? ⟨vb,2,none⟩=false∧w.frozen? ⟨vb,3,none⟩=false∧w.frozen? ⟨vb,4,none⟩=false∧w.frozen? ⟨vb,5,none⟩=false∧vb<w.heap.size
theorem BlkAt.view {w:World}{vb:Nat}(h:BlkAt w vb viewZ 46):ViewAt w vb :=
 ⟨h.cell rfl,h.cell rfl,h.cell rfl,h.cell rfl,h.cell rfl,h.cell rfl,h.free 0,h.free 1,h.free 2,h.free 3,h.free 4,h.free 5,h.lt⟩
def viewK (k:Nat):List Value:=[.int .i64 2,.bool false,.int .i64 k,.int .i64 0,.int .i64 0,.int .i64 (-1)]
def sumTo (ln:Nat→Nat):Nat→Nat
 | 0=>0
 | k+1=>sumTo ln k+ln k
theorem sumTo_le (ln:Nat→Nat)(h:∀ i,ln i≤1000)(k:Nat):sumTo ln k≤1000*k:=by
 induction k with
 | zero=>exact Nat.le_refl _
 | succ k ih=>have:=h k;simp only[sumTo];omega
def viewG (ph:Int)(pa:Bool)(tn wn:Int)(ln:Nat→Nat)(k:Nat):List Value:=[.int .i64 ph,.bool pa,.int .i64 k,.int .i64 tn,.int .i64 (sumTo ln k),.int .i64 wn]
theorem cell_set6 (W:World)(vb mb i:Nat)(a0 a1 a2 a3 a4 a5:Value)(hne:mb≠vb) :
  ((((((W.setCell ⟨vb,0,none⟩ a0).setCell ⟨vb,1,none⟩ a1).setCell ⟨vb,2,none⟩ a2).setCell ⟨vb,3,none⟩ a3).setCell ⟨vb,4,none⟩ a4).setCell ⟨vb,5,none⟩ a5).cell? ⟨mb,i,none⟩=W.cell? ⟨mb,i,none⟩:=by
 have h:∀ (U:World) (j:Nat) (v:Value),(U.setCell ⟨vb,j,none⟩ v).cell? ⟨mb,i,none⟩=U.cell? ⟨mb,i,none⟩:=fun U j v=>World.cell?_of_block (w:=U) (Below.heap_setCell U ⟨vb,j,none⟩ v mb hne)
 rw[h,h,h,h,h,h]
noncomputable def cLook:Code:=(Tryz.f46.body).getD .skip
theorem look_tail {w0 wd:World}{mb tb vb rs P:Nat}{pa:Bool}{ph tn wn:Int}{pbs:List Nat}{ad:Nat→Option Addr}{ln cp:Nat→Nat}{Q:Exit→Act→World→Prop}{tm:Array Value}{df:List Deferred}(hz:tm.size=56)(h0:tm.getD 0 undef=.pointer (some ⟨mb,0,none⟩))(h2:tm.getD 2 undef=.pointer (some ⟨rs,0,none⟩))(h3:tm.getD 3 undef=.pointer (some ⟨vb,0,none⟩))
  (p4:P≤4)(hln:∀ i,ln i≤1000)(h4:wd.cell? ⟨mb,4,none⟩=some (.slice (some ⟨tb,0,none⟩) P P))(HTH:Hid (∀ (W:World)(i:Nat),Below w0.heap.size w0 W→i<P→W.cell? ⟨tb,i,none⟩=some (.pointer (some ⟨pbs.getD i 0,0,none⟩))∧W.cell? ⟨pbs.getD i 0,3,none⟩=some (.slice (ad i) (ln i) (cp i))))
  (HVV:Hid (BlkAt wd vb (viewG ph pa tn wn ln 0) 46))(HBB:Hid (Below w0.heap.size w0 wd))(hvb:w0.heap.size≤vb)(HR:Hid (BlkAt w0 rs viewZ 46))
  (HQQ:Hid (∀ (a:Act)(wr:World),a.defers=df→a.tmps.getD 2 undef=.pointer (some ⟨rs,0,none⟩)→Below w0.heap.size w0 wr→Q .ret a ((((((wr.setCell ⟨rs,0,none⟩ (.int .i64 ph)).setCell ⟨rs,1,none⟩ (.bool pa)).setCell ⟨rs,2,none⟩ (.int .i64 P)).setCell ⟨rs,3,none⟩ (.int .i64 tn)).setCell ⟨rs,4,none⟩ (.int .i64 (sumTo ln P))).setCell ⟨rs,5,none⟩ (.int .i64 wn)))):Code.wp Pz.prog (after 4 cLook) Q ⟨tm,df⟩ wd:=by
 have e:=tmps_lit (n:=56) (tm:=tm) hz
 obtain ⟨f,hf⟩:∃ f:Nat→Value,f=fun i=>tm.getD i undef:=⟨_,rfl⟩
 have f0:f 0=.pointer (some ⟨mb,0,none⟩):=by rw[hf];exact h0
 have f2:f 2=.pointer (some ⟨rs,0,none⟩):=by rw[hf];exact h2
 have f3:f 3=.pointer (some ⟨vb,0,none⟩):=by rw[hf];exact h3
 rw[← hf]at e
 subst e
 clear hf hz h0 h2 h3
 simp only[cLook,after,Tryz.f46,Option.getD,show List.range 56=[0,1,2,3,4,5,6,7,8,9,10,11,12,13,14,15,16,17,18,19,20,21,22,23,24,25,26,27,28,29,30,31,32,33,34,35,36,37,38,39,40,41,42,43,44,45,46,47,48,49,50,51,52,53,54,55] from rfl,List.map,f0,f2,f3]
 clear f0 f2 f3
 go_wp2
 go_loopw [35] (fun i wr=>∃ k:Nat,k≤P∧i=.int .i64 k∧BlkAt wr vb (viewG ph pa tn wn ln k) 46∧Below w0.heap.size w0 wr) (fun i _=>P-(intOf i).toNat)
 case atStart=>exact ⟨0,by omega,rfl,HVV.out,HBB.out⟩
 case round =>
  obtain ⟨k,hk,rfl,hb,hbl⟩:=hrel
  by_cases hlt:k<P
  ·obtain ⟨hc1,hc2⟩:=HTH.out _ k hbl hlt
   generalize pbs.getD k 0=ub at hc1 hc2
   have hsl:=sumTo_le ln hln k
   have hlk:=hln k
   have HSS:Hid (((sumTo ln k:Nat):Int)+((ln k:Nat):Int)=((sumTo ln (k+1):Nat):Int)):=by unfold Hid;simp only[sumTo];omega
   have hwr:IntKind.i64.wrap (((sumTo ln k:Nat):Int)+((ln k:Nat):Int))=((sumTo ln (k+1):Nat):Int):=by rw[HSS.out];have:=sumTo_le ln hln (k+1);simp[IntKind.wrap,IntKind.bits,IntKind.signed];omega
   have q2:=hb.cell (i:=2) rfl
   have q4:=hb.cell (i:=4) rfl
   have z2:=hb.free 2
   have z4:=hb.free 4
   have HQ:=(show Hid _ from hb)
   have HQB:=(show Hid _ from hbl)
   clear hb hbl
   go_wp2
   refine wp_region_noPanic ?_
   go_region
   all_goals
    refine NoPanic.normal ?_
    go_wp2
    go_roundw
    case rel=>exact ⟨k+1,by omega,by go_num,by
     have h0:BlkAt wr vb (viewG ph pa tn wn ln k) 46:=HQ.out
     exact (h0.set 2 (.int .i64 (k+1))).set 4 (.int .i64 (sumTo ln (k+1))),((HQB.out.setCell (p:=⟨vb,2,none⟩) hvb (.int .i64 (k+1))).setCell (p:=⟨vb,4,none⟩) hvb (.int .i64 (sumTo ln (k+1)))).drew⟩
    case measure=>simp[intOf];omega
  ·obtain rfl:k=P:=by omega
   have q0:=hb.cell (i:=0) rfl
   have q1:=hb.cell (i:=1) rfl
   have q2:=hb.cell (i:=2) rfl
   have q3:=hb.cell (i:=3) rfl
   have q4:=hb.cell (i:=4) rfl
   have q5:=hb.cell (i:=5) rfl
   have hr0:BlkAt w0 rs viewZ 46:=HR.out
   have hz:=hr0.lt
   have hr:BlkAt wr rs viewZ 46:=hr0.same (hbl.block _ hz)
   have r0:=hr.cell (i:=0) rfl
   have r1:=hr.cell (i:=1) rfl
   have r2:=hr.cell (i:=2) rfl
   have r3:=hr.cell (i:=3) rfl
   have r4:=hr.cell (i:=4) rfl
   have r5:=hr.cell (i:=5) rfl
   have s0:=hr.free 0
   have s1:=hr.free 1
   have s2:=hr.free 2
   have s3:=hr.free 3
   have s4:=hr.free 4
   have s5:=hr.free 5
   have HQB:=(show Hid _ from hbl)
   clear hr hb hbl
   go_wp2
   exact HQQ.out _ wr rfl rfl HQB.out
section
variable {w:World} {mb sb tb P:Nat} {x3 x6:Value} {pa:Bool} {ph tn wn:Int} {pbs:List Nat} {ad:Nat→Option Addr} {ln cp:Nat→Nat}
theorem mlook_gen (hm:BlkAt w mb [.int .i32 0,.int .u32 0,.pointer (some ⟨sb,0,none⟩),x3,.slice (some ⟨tb,0,none⟩) P P,.bool pa,x6] 136)(p4:P≤4)(hln:∀ i,ln i≤1000)
    (hst:∀ i,i<P→w.cell? ⟨tb,i,none⟩=some (.pointer (some ⟨pbs.getD i 0,0,none⟩))∧w.cell? ⟨pbs.getD i 0,3,none⟩=some (.slice (ad i) (ln i) (cp i))∧pbs.getD i 0≠mb)(htm:tb≠mb)
    (hPh:∀ W,Below w.heap.size (w.setCell ⟨mb,0,none⟩ (.int .i32 1)) W→Calls Pz.prog 91 #[.pointer (some ⟨mb,0,none⟩)] W fun e w'=>e=.returned (.int .i64 ph)∧Below W.heap.size W w')
    (hTn:∀ W,Below w.heap.size (w.setCell ⟨mb,0,none⟩ (.int .i32 1)) W→Calls Pz.prog 92 #[.pointer (some ⟨sb,0,none⟩)] W fun e w'=>e=.returned (.int .i64 tn)∧w'=W)
    (hWn:∀ W,Below w.heap.size (w.setCell ⟨mb,0,none⟩ (.int .i32 1)) W→Calls Pz.prog 93 #[.pointer (some ⟨sb,0,none⟩)] W fun e w'=>e=.returned (.int .i64 wn)∧Below W.heap.size W w') :
    Calls Pz.prog 46 #[.pointer (some ⟨mb,0,none⟩)] w fun e w'=>e=.returned (.agg #[.int .i64 ph,.bool pa,.int .i64 P,.int .i64 tn,.int .i64 (sumTo ln P),.int .i64 wn])∧Below w.heap.size w w':=by
  have hmb:=hm.lt
  have hma:BlkAt (w.alloc (.cells #[.int .i64 0,.bool false,.int .i64 0,.int .i64 0,.int .i64 0,.int .i64 0] 46)) mb [.int .i32 0,.int .u32 0,.pointer (some ⟨sb,0,none⟩),x3,.slice (some ⟨tb,0,none⟩) P P,.bool pa,x6] 136:=hm.alloc _
  have h0:(w.alloc (.cells #[.int .i64 0,.bool false,.int .i64 0,.int .i64 0,.int .i64 0,.int .i64 0] 46)).cell? ⟨mb,0,none⟩=some (.int .i32 0):=hma.cell rfl
  have f0:(w.alloc (.cells #[.int .i64 0,.bool false,.int .i64 0,.int .i64 0,.int .i64 0,.int .i64 0] 46)).frozen? ⟨mb,0,none⟩=false:=hma.free 0
  have HL:=(show Hid _ from lock_free muLib ⟨mb,0,none⟩ _ h0 f0)
  have h1:BlkAt ((w.alloc (.cells #[.int .i64 0,.bool false,.int .i64 0,.int .i64 0,.int .i64 0,.int .i64 0] 46)).setCell ⟨mb,0,none⟩ (.int .i32 1)) mb [.int .i32 1,.int .u32 0,.pointer (some ⟨sb,0,none⟩),x3,.slice (some ⟨tb,0,none⟩) P P,.bool pa,x6] 136:=hma.set 0 (.int .i32 1)
  have hrb:BlkAt ((w.alloc (.cells #[.int .i64 0,.bool false,.int .i64 0,.int .i64 0,.int .i64 0,.int .i64 0] 46)).setCell ⟨mb,0,none⟩ (.int .i32 1)) w.heap.size viewZ 46:=(BlkAt.new w viewZ _).other (by omega)
  have HK1:Hid (∀ k,k<w.heap.size→((w.alloc (.cells #[.int .i64 0,.bool false,.int .i64 0,.int .i64 0,.int .i64 0,.int .i64 0] 46)).setCell ⟨mb,0,none⟩ (.int .i32 1)).heap[k]? = (w.setCell ⟨mb,0,none⟩ (.int .i32 1)).heap[k]?):=fun k hk=>by
    rw[World.setCell_alloc_past _ _ _ _ hmb]
    exact Below.heap_alloc _ _ _ (by simpa using hk)
  have hz1:w.heap.size<((w.alloc (.cells #[.int .i64 0,.bool false,.int .i64 0,.int .i64 0,.int .i64 0,.int .i64 0] 46)).setCell ⟨mb,0,none⟩ (.int .i32 1)).heap.size:=by simp
  have HBW:Hid (Below w.heap.size (w.setCell ⟨mb,0,none⟩ (.int .i32 1)) ((w.alloc (.cells #[.int .i64 0,.bool false,.int .i64 0,.int .i64 0,.int .i64 0,.int .i64 0] 46)).setCell ⟨mb,0,none⟩ (.int .i32 1))):=⟨rfl,rfl,rfl,by simp,fun k hk=>HK1.out k hk⟩
  have HH:=(show Hid _ from hm)
  have HST:=(show Hid _ from hst)
  clear hma h0 f0
  generalize hw1:(w.alloc (.cells #[.int .i64 0,.bool false,.int .i64 0,.int .i64 0,.int .i64 0,.int .i64 0] 46)).setCell ⟨mb,0,none⟩ (.int .i32 1)=w1 at *
  clear hw1
  have HM:Hid (∀ W,Below w1.heap.size w1 W→W.cell? ⟨mb,2,none⟩=some (.pointer (some ⟨sb,0,none⟩))∧W.cell? ⟨mb,5,none⟩=some (.bool pa)∧mb<W.heap.size):=fun W hW=>⟨(hW.cell h1.lt).trans (h1.cell rfl),(hW.cell h1.lt).trans (h1.cell rfl),by have:=h1.lt;have:=hW.size;omega⟩
  have HX:Hid (∀ W,Below w1.heap.size w1 W→Below w.heap.size (w.setCell ⟨mb,0,none⟩ (.int .i32 1)) W):=fun W hW=>HBW.out.trans (hW.mono (by omega))
  have HP:Hid (∀ W,Below w1.heap.size w1 W→Calls Pz.prog 91 #[.pointer (some ⟨mb,0,none⟩)] W fun e w'=>e=.returned (.int .i64 ph)∧(w'.cell? ⟨mb,2,none⟩=some (.pointer (some ⟨sb,0,none⟩))∧w'.cell? ⟨mb,5,none⟩=some (.bool pa)∧mb<w'.heap.size)∧Hid (Below W.heap.size W w')∧Hid (Below w1.heap.size w1 w')):=fun W hW=>(hPh W (HX.out W hW)).mono fun e w' ⟨he,hb⟩=>⟨he,HM.out _ (hW.trans (hb.mono hW.size)),hb,hW.trans (hb.mono hW.size)⟩
  have HT:Hid (∀ W,Below w1.heap.size w1 W→Calls Pz.prog 92 #[.pointer (some ⟨sb,0,none⟩)] W fun e w'=>e=.returned (.int .i64 tn)∧w'=W):=fun W hW=>hTn W (HX.out W hW)
  have HW:Hid (∀ W,Below w1.heap.size w1 W→Calls Pz.prog 93 #[.pointer (some ⟨sb,0,none⟩)] W fun e w'=>e=.returned (.int .i64 wn)∧(w'.cell? ⟨mb,2,none⟩=some (.pointer (some ⟨sb,0,none⟩))∧w'.cell? ⟨mb,5,none⟩=some (.bool pa)∧mb<w'.heap.size)∧Hid (Below W.heap.size W w')∧Hid (Below w1.heap.size w1 w')):=fun W hW=>(hWn W (HX.out W hW)).mono fun e w' ⟨he,hb⟩=>⟨he,HM.out _ (hW.trans (hb.mono hW.size)),hb,hW.trans (hb.mono hW.size)⟩
  have HPv:Hid (∀ W vb,Below w1.heap.size w1 W→BlkAt W vb viewZ 46→Calls Pz.prog 91 #[.pointer (some ⟨mb,0,none⟩)] W fun e w'=>e=.returned (.int .i64 ph)∧(w'.cell? ⟨mb,2,none⟩=some (.pointer (some ⟨sb,0,none⟩))∧w'.cell? ⟨mb,5,none⟩=some (.bool pa)∧mb<w'.heap.size)∧Hid (BlkAt w' vb viewZ 46)∧ViewAt w' vb∧Hid (Below w1.heap.size w1 w')):=fun W vb hW hv=>(HP.out W hW).mono fun e w' ⟨he,hf,hb,hb'⟩=>by
    have hv':=hv.same (hb.out.block _ hv.lt)
    exact ⟨he,hf,hv',hv'.view,hb'⟩
  have HWv:Hid (∀ W vb,Below w1.heap.size w1 W→BlkAt W vb viewZ 46→Calls Pz.prog 93 #[.pointer (some ⟨sb,0,none⟩)] W fun e w'=>e=.returned (.int .i64 wn)∧(w'.cell? ⟨mb,2,none⟩=some (.pointer (some ⟨sb,0,none⟩))∧w'.cell? ⟨mb,5,none⟩=some (.bool pa)∧mb<w'.heap.size)∧Hid (BlkAt w' vb viewZ 46)∧ViewAt w' vb∧Hid (Below w1.heap.size w1 w')):=fun W vb hW hv=>(HW.out W hW).mono fun e w' ⟨he,hf,hb,hb'⟩=>by
    have hv':=hv.same (hb.out.block _ hv.lt)
    exact ⟨he,hf,hv',hv'.view,hb'⟩
  have HBd:Hid (Below w1.heap.size w1 (w1.alloc (.cells #[.int .i64 0,.bool false,.int .i64 0,.int .i64 0,.int .i64 0,.int .i64 0] 46)).drew):=((Below.refl _ _).alloc (Nat.le_refl _) _).drew
  have HNd:Hid (BlkAt (w1.alloc (.cells #[.int .i64 0,.bool false,.int .i64 0,.int .i64 0,.int .i64 0,.int .i64 0] 46)).drew w1.heap.size viewZ 46):=BlkAt.new w1 viewZ _
  have HNa:Hid (∀ W:World,BlkAt (W.alloc (.cells #[.int .i64 0,.bool false,.int .i64 0,.int .i64 0,.int .i64 0,.int .i64 0] 46)) W.heap.size viewZ 46):=fun W=>BlkAt.new W viewZ _
  have h2:w1.cell? ⟨mb,2,none⟩=some (.pointer (some ⟨sb,0,none⟩)):=h1.cell rfl
  have h5:w1.cell? ⟨mb,5,none⟩=some (.bool pa):=h1.cell rfl
  have hm1:=h1.lt
  have d2:w1.drew.cell? ⟨mb,2,none⟩=some (.pointer (some ⟨sb,0,none⟩)):=h2
  have d5:w1.drew.cell? ⟨mb,5,none⟩=some (.bool pa):=h5
  have dm:mb<w1.drew.heap.size:=hm1
  have e2:(w1.alloc (.cells #[.int .i64 0,.bool false,.int .i64 0,.int .i64 0,.int .i64 0,.int .i64 0] 46)).drew.cell? ⟨mb,2,none⟩=some (.pointer (some ⟨sb,0,none⟩)):=(World.cell?_alloc_past _ _ _ hm1).trans h2
  have e5:(w1.alloc (.cells #[.int .i64 0,.bool false,.int .i64 0,.int .i64 0,.int .i64 0,.int .i64 0] 46)).drew.cell? ⟨mb,5,none⟩=some (.bool pa):=(World.cell?_alloc_past _ _ _ hm1).trans h5
  have HH1:=(show Hid _ from h1)
  have HR:=(show Hid _ from hrb)
  have HTH:Hid (∀ (W:World) (i:Nat),Below w1.heap.size w1 W→i<P→W.cell? ⟨tb,i,none⟩=some (.pointer (some ⟨pbs.getD i 0,0,none⟩))∧W.cell? ⟨pbs.getD i 0,3,none⟩=some (.slice (ad i) (ln i) (cp i))):=fun W i hW hi=>by
    obtain ⟨s1,s2,s3⟩:=HST.out i hi
    have hb:=HBW.out.trans (hW.mono (by omega))
    have e1:W.heap[tb]? = w.heap[tb]?:=(hb.block tb (cell_lt s1)).trans (Below.heap_setCell w ⟨mb,0,none⟩ _ tb htm)
    have e2:W.heap[pbs.getD i 0]? = w.heap[pbs.getD i 0]?:=(hb.block _ (cell_lt s2)).trans (Below.heap_setCell w ⟨mb,0,none⟩ _ _ s3)
    exact ⟨(World.cell?_of_block (w:=w) e1).trans s1,(World.cell?_of_block (w:=w) e2).trans s2⟩
  have HQQ:Hid (∀ (a:Act) (wr:World),a.defers=[{ target:=.fn (.func 90) #[],args:=#[.pointer (some ⟨mb,0,none⟩)] }]→a.tmps.getD 2 undef=.pointer (some ⟨w.heap.size,0,none⟩)→Below w1.heap.size w1 wr→bodyPostD Pz.prog Tryz.f46 (fun e w'=>e=.returned (.agg #[.int .i64 ph,.bool pa,.int .i64 P,.int .i64 tn,.int .i64 (sumTo ln P),.int .i64 wn])∧Below w.heap.size w w') .ret a ((((((wr.setCell ⟨w.heap.size,0,none⟩ (.int .i64 ph)).setCell ⟨w.heap.size,1,none⟩ (.bool pa)).setCell ⟨w.heap.size,2,none⟩ (.int .i64 P)).setCell ⟨w.heap.size,3,none⟩ (.int .i64 tn)).setCell ⟨w.heap.size,4,none⟩ (.int .i64 (sumTo ln P))).setCell ⟨w.heap.size,5,none⟩ (.int .i64 wn))):=fun a wr ha h2 hbl=>by
    have hr0:BlkAt w1 w.heap.size viewZ 46:=HR.out
    have hrr:BlkAt wr w.heap.size viewZ 46:=hr0.same (hbl.block _ hr0.lt)
    have hz6:BlkAt ((((((wr.setCell ⟨w.heap.size,0,none⟩ (.int .i64 ph)).setCell ⟨w.heap.size,1,none⟩ (.bool pa)).setCell ⟨w.heap.size,2,none⟩ (.int .i64 P)).setCell ⟨w.heap.size,3,none⟩ (.int .i64 tn)).setCell ⟨w.heap.size,4,none⟩ (.int .i64 (sumTo ln P))).setCell ⟨w.heap.size,5,none⟩ (.int .i64 wn)) w.heap.size (viewG ph pa tn wn ln P) 46:=(((((hrr.set 0 _).set 1 _).set 2 _).set 3 _).set 4 _).set 5 _
    have hzk:∀ q,q<w.heap.size→((((((wr.setCell ⟨w.heap.size,0,none⟩ (.int .i64 ph)).setCell ⟨w.heap.size,1,none⟩ (.bool pa)).setCell ⟨w.heap.size,2,none⟩ (.int .i64 P)).setCell ⟨w.heap.size,3,none⟩ (.int .i64 tn)).setCell ⟨w.heap.size,4,none⟩ (.int .i64 (sumTo ln P))).setCell ⟨w.heap.size,5,none⟩ (.int .i64 wn)).heap[q]? = (w.setCell ⟨mb,0,none⟩ (.int .i32 1)).heap[q]?:=fun q hq=>by
      have h:∀ (U:World) (j:Nat) (v:Value),(U.setCell ⟨w.heap.size,j,none⟩ v).heap[q]? = U.heap[q]?:=fun U j v=>Below.heap_setCell U ⟨w.heap.size,j,none⟩ v q (by show q≠w.heap.size;omega)
      rw[h,h,h,h,h,h]
      exact (hbl.block q (by omega)).trans (HK1.out q hq)
    have hoo:((((((wr.setCell ⟨w.heap.size,0,none⟩ (.int .i64 ph)).setCell ⟨w.heap.size,1,none⟩ (.bool pa)).setCell ⟨w.heap.size,2,none⟩ (.int .i64 P)).setCell ⟨w.heap.size,3,none⟩ (.int .i64 tn)).setCell ⟨w.heap.size,4,none⟩ (.int .i64 (sumTo ln P))).setCell ⟨w.heap.size,5,none⟩ (.int .i64 wn)).os=w.os∧((((((wr.setCell ⟨w.heap.size,0,none⟩ (.int .i64 ph)).setCell ⟨w.heap.size,1,none⟩ (.bool pa)).setCell ⟨w.heap.size,2,none⟩ (.int .i64 P)).setCell ⟨w.heap.size,3,none⟩ (.int .i64 tn)).setCell ⟨w.heap.size,4,none⟩ (.int .i64 (sumTo ln P))).setCell ⟨w.heap.size,5,none⟩ (.int .i64 wn)).tape=w.tape∧((((((wr.setCell ⟨w.heap.size,0,none⟩ (.int .i64 ph)).setCell ⟨w.heap.size,1,none⟩ (.bool pa)).setCell ⟨w.heap.size,2,none⟩ (.int .i64 P)).setCell ⟨w.heap.size,3,none⟩ (.int .i64 tn)).setCell ⟨w.heap.size,4,none⟩ (.int .i64 (sumTo ln P))).setCell ⟨w.heap.size,5,none⟩ (.int .i64 wn)).output=w.output∧w.heap.size≤((((((wr.setCell ⟨w.heap.size,0,none⟩ (.int .i64 ph)).setCell ⟨w.heap.size,1,none⟩ (.bool pa)).setCell ⟨w.heap.size,2,none⟩ (.int .i64 P)).setCell ⟨w.heap.size,3,none⟩ (.int .i64 tn)).setCell ⟨w.heap.size,4,none⟩ (.int .i64 (sumTo ln P))).setCell ⟨w.heap.size,5,none⟩ (.int .i64 wn)).heap.size:=by
      have hb:=((((((HBW.out.trans (hbl.mono (by omega))).setCell (p:=⟨w.heap.size,0,none⟩) (Nat.le_refl _) (.int .i64 ph)).setCell (p:=⟨w.heap.size,1,none⟩) (Nat.le_refl _) (.bool pa)).setCell (p:=⟨w.heap.size,2,none⟩) (Nat.le_refl _) (.int .i64 P)).setCell (p:=⟨w.heap.size,3,none⟩) (Nat.le_refl _) (.int .i64 tn)).setCell (p:=⟨w.heap.size,4,none⟩) (Nat.le_refl _) (.int .i64 (sumTo ln P))).setCell (p:=⟨w.heap.size,5,none⟩) (Nat.le_refl _) (.int .i64 wn)
      have hsz:=hb.size
      rw[World.heap_setCell_size w]at hsz
      exact ⟨hb.os,hb.tape,hb.output,hsz⟩
    generalize ((((((wr.setCell ⟨w.heap.size,0,none⟩ (.int .i64 ph)).setCell ⟨w.heap.size,1,none⟩ (.bool pa)).setCell ⟨w.heap.size,2,none⟩ (.int .i64 P)).setCell ⟨w.heap.size,3,none⟩ (.int .i64 tn)).setCell ⟨w.heap.size,4,none⟩ (.int .i64 (sumTo ln P))).setCell ⟨w.heap.size,5,none⟩ (.int .i64 wn))=wz at *
    have hm0:BlkAt w mb [.int .i32 0,.int .u32 0,.pointer (some ⟨sb,0,none⟩),x3,.slice (some ⟨tb,0,none⟩) P P,.bool pa,x6] 136:=HH.out
    have h3:BlkAt wz mb [.int .i32 1,.int .u32 0,.pointer (some ⟨sb,0,none⟩),x3,.slice (some ⟨tb,0,none⟩) P P,.bool pa,x6] 136:=(hm0.set 0 (.int .i32 1)).same (hzk mb hmb)
    show Leaves Pz.prog _ a.tmps _ a.defers .returning wz
    rw[ha]
    refine leaves_cons (f:=90) (args:=#[.pointer (some ⟨mb,0,none⟩)]) (by simp) (by simp[go_sem]) ?_
    refine (unlock_deferred muLib ⟨mb,0,none⟩ .returning _ (h3.cell rfl) (h3.free 0)).mono ?_
    rintro e u' w'' ⟨rfl,rfl,rfl⟩
    have hzf:BlkAt (wz.setCell ⟨mb,0,none⟩ (.int .i32 0)) w.heap.size (viewG ph pa tn wn ln P) 46:=hz6.other (by omega)
    refine ⟨_,results_cell_row rfl _ _ w.heap.size 46 (viewG ph pa tn wn ln P).toArray (0,0) _ h2 hzf ((Pz.gUnderlying 46).trans Tryz.underlying46) rfl (by kernel_rfl),rfl,hoo.1,hoo.2.1,hoo.2.2.1,by rw[World.heap_setCell_size];exact hoo.2.2.2,fun q hq=>?_⟩
    by_cases hne:q=mb
    · subst hne
      exact (show (wz.setCell ⟨q,0,none⟩ (.int .i32 0)).heap[q]? = _ from h3.set 0 (.int .i32 0)).trans (show w.heap[q]? = _ from hm0).symm
    · exact (Below.heap_setCell wz ⟨mb,0,none⟩ _ q hne).trans ((hzk q hq).trans (Below.heap_setCell w ⟨mb,0,none⟩ _ q hne))
  clear h1 hrb hm hst hPh hTn hWn
  go_enter_defers Pz.func46,Tryz.ntmps46
  go_wp2_with (first|(go_at_call 89;refine Calls.mono HL.out ?_;rintro e w' ⟨rfl,rfl⟩))
  go_region_held3 (fun w'=>w'.cell? ⟨mb,2,none⟩=some (.pointer (some ⟨sb,0,none⟩))∧w'.cell? ⟨mb,5,none⟩=some (.bool pa)) (first|(with_reducible assumption)|(refine ⟨?_,?_⟩<;>first|(with_reducible assumption)|(rw[World.cell?_alloc_past];(with_reducible assumption);first|exact mc0|exact ma0|exact dm)|(rw[cell_set6 _ _ _ _ _ _ _ _ _ _ (by omega)];first|(with_reducible assumption)|(rw[World.cell?_alloc_past];(with_reducible assumption);first|exact mc0|exact ma0|exact dm)))|(trace_state;fail)) (first
    | (go_at_call 91;refine Calls.mono (HP.out _ (by with_reducible exact (Below.refl _ _).drew)) ?_;rintro e wa ⟨rfl,⟨ma2,ma5,ma0⟩,ka0,ka⟩)
    | (go_at_call 91;refine Calls.mono (HPv.out _ _ (by with_reducible exact HBd.out) (by with_reducible exact HNd.out)) ?_;rintro e wa ⟨rfl,⟨ma2,ma5,ma0⟩,hva,⟨va0,va1,va2,va3,va4,va5,fa0,fa1,fa2,fa3,fa4,fa5,vla⟩,ka⟩)
    | (go_at_call 92;refine Calls.mono (HT.out _ (by first|(with_reducible exact ka.out)|(with_reducible exact ka.out.alloc ka.out.size _))) ?_;rintro e wb ⟨rfl,hwb⟩;rw[hwb];clear hwb wb)
    | (go_at_call 93;refine Calls.mono (HWv.out _ _ (by with_reducible exact ka.out) (by with_reducible exact hva.out)) ?_;rintro e wc ⟨rfl,⟨mc2,mc5,mc0⟩,hvc,⟨vc0,vc1,vc2,vc3,vc4,vc5,fc0,fc1,fc2,fc3,fc4,fc5,vlc⟩,kc⟩)
    | (go_at_call 93;refine Calls.mono (HWv.out _ wa.heap.size (by with_reducible exact ka.out.alloc ka.out.size _) (by with_reducible exact HNa.out wa)) ?_;rintro e wc ⟨rfl,⟨mc2,mc5,mc0⟩,hvc,⟨vc0,vc1,vc2,vc3,vc4,vc5,fc0,fc1,fc2,fc3,fc4,fc5,vlc⟩,kc⟩)
    | (go_at_call 93;refine Calls.mono (HW.out _ (by with_reducible exact ka.out)) ?_;rintro e wc ⟨rfl,⟨mc2,mc5,mc0⟩,kc0,kc⟩))
  all_goals
    have hks:=kc.out.size
    first
    | (have hV:BlkAt (wc.alloc (.cells #[.int .i64 ph,.bool pa,.int .i64 0,.int .i64 tn,.int .i64 0,.int .i64 wn] 46)) wc.heap.size (viewG ph pa tn wn ln 0) 46:=BlkAt.new wc (viewG ph pa tn wn ln 0) _
       have hB:Below w'.heap.size w' (wc.alloc (.cells #[.int .i64 ph,.bool pa,.int .i64 0,.int .i64 tn,.int .i64 0,.int .i64 wn] 46)):=kc.out.alloc hks _
       obtain ⟨wd,hwd⟩:∃ x,x=(wc.alloc (.cells #[.int .i64 ph,.bool pa,.int .i64 0,.int .i64 tn,.int .i64 0,.int .i64 wn] 46)):=⟨_,rfl⟩
       obtain ⟨vb,hvd⟩:∃ x,x=wc.heap.size:=⟨_,rfl⟩
       rw[← hwd]at hV hB ⊢
       rw[← hvd]at hV ⊢
       have hvb:w'.heap.size≤vb:=Nat.le_trans (show w'.heap.size≤wc.heap.size from hks) (Nat.le_of_eq hvd.symm))
    | (have g0:BlkAt wc wa.heap.size viewZ 46:=(by with_reducible exact hvc.out)
       have hV:BlkAt ((((((wc.setCell ⟨wa.heap.size,0,none⟩ (.int .i64 ph)).setCell ⟨wa.heap.size,1,none⟩ (.bool pa)).setCell ⟨wa.heap.size,2,none⟩ (.int .i64 0)).setCell ⟨wa.heap.size,3,none⟩ (.int .i64 tn)).setCell ⟨wa.heap.size,4,none⟩ (.int .i64 0)).setCell ⟨wa.heap.size,5,none⟩ (.int .i64 wn)) wa.heap.size (viewG ph pa tn wn ln 0) 46:=(((((g0.set 0 _).set 1 _).set 2 _).set 3 _).set 4 _).set 5 _
       have hB:Below w'.heap.size w' ((((((wc.setCell ⟨wa.heap.size,0,none⟩ (.int .i64 ph)).setCell ⟨wa.heap.size,1,none⟩ (.bool pa)).setCell ⟨wa.heap.size,2,none⟩ (.int .i64 0)).setCell ⟨wa.heap.size,3,none⟩ (.int .i64 tn)).setCell ⟨wa.heap.size,4,none⟩ (.int .i64 0)).setCell ⟨wa.heap.size,5,none⟩ (.int .i64 wn)):=((((((kc.out.setCell ka.out.size _).setCell ka.out.size _).setCell ka.out.size _).setCell ka.out.size _).setCell ka.out.size _).setCell ka.out.size _)
       obtain ⟨wd,hwd⟩:∃ x,x=((((((wc.setCell ⟨wa.heap.size,0,none⟩ (.int .i64 ph)).setCell ⟨wa.heap.size,1,none⟩ (.bool pa)).setCell ⟨wa.heap.size,2,none⟩ (.int .i64 0)).setCell ⟨wa.heap.size,3,none⟩ (.int .i64 tn)).setCell ⟨wa.heap.size,4,none⟩ (.int .i64 0)).setCell ⟨wa.heap.size,5,none⟩ (.int .i64 wn)):=⟨_,rfl⟩
       obtain ⟨vb,hvd⟩:∃ x,x=wa.heap.size:=⟨_,rfl⟩
       rw[← hwd]at hV hB ⊢
       rw[← hvd]at hV ⊢
       have hvb:w'.heap.size≤vb:=Nat.le_trans (show w'.heap.size≤wa.heap.size from ka.out.size) (Nat.le_of_eq hvd.symm))
    | (have g0:BlkAt wc w'.heap.size viewZ 46:=(by with_reducible exact hvc.out)
       have hV:BlkAt ((((((wc.setCell ⟨w'.heap.size,0,none⟩ (.int .i64 ph)).setCell ⟨w'.heap.size,1,none⟩ (.bool pa)).setCell ⟨w'.heap.size,2,none⟩ (.int .i64 0)).setCell ⟨w'.heap.size,3,none⟩ (.int .i64 tn)).setCell ⟨w'.heap.size,4,none⟩ (.int .i64 0)).setCell ⟨w'.heap.size,5,none⟩ (.int .i64 wn)) w'.heap.size (viewG ph pa tn wn ln 0) 46:=(((((g0.set 0 _).set 1 _).set 2 _).set 3 _).set 4 _).set 5 _
       have hB:Below w'.heap.size w' ((((((wc.setCell ⟨w'.heap.size,0,none⟩ (.int .i64 ph)).setCell ⟨w'.heap.size,1,none⟩ (.bool pa)).setCell ⟨w'.heap.size,2,none⟩ (.int .i64 0)).setCell ⟨w'.heap.size,3,none⟩ (.int .i64 tn)).setCell ⟨w'.heap.size,4,none⟩ (.int .i64 0)).setCell ⟨w'.heap.size,5,none⟩ (.int .i64 wn)):=((((((kc.out.setCell (Nat.le_refl _) _).setCell (Nat.le_refl _) _).setCell (Nat.le_refl _) _).setCell (Nat.le_refl _) _).setCell (Nat.le_refl _) _).setCell (Nat.le_refl _) _)
       obtain ⟨wd,hwd⟩:∃ x,x=((((((wc.setCell ⟨w'.heap.size,0,none⟩ (.int .i64 ph)).setCell ⟨w'.heap.size,1,none⟩ (.bool pa)).setCell ⟨w'.heap.size,2,none⟩ (.int .i64 0)).setCell ⟨w'.heap.size,3,none⟩ (.int .i64 tn)).setCell ⟨w'.heap.size,4,none⟩ (.int .i64 0)).setCell ⟨w'.heap.size,5,none⟩ (.int .i64 wn)):=⟨_,rfl⟩
       obtain ⟨vb,hvd⟩:∃ x,x=w'.heap.size:=⟨_,rfl⟩
       rw[← hwd]at hV hB ⊢
       rw[← hvd]at hV ⊢
       have hvb:w'.heap.size≤vb:=Nat.le_trans (show w'.heap.size≤w'.heap.size from Nat.le_refl _) (Nat.le_of_eq hvd.symm))
    have HVV:=(show Hid _ from hV)
    have HBB:=(show Hid _ from hB)
    have h4:wd.cell? ⟨mb,4,none⟩=some (.slice (some ⟨tb,0,none⟩) P P):=(hB.cell hm1).trans (BlkAt.cell (show BlkAt w' mb [.int .i32 1,.int .u32 0,.pointer (some ⟨sb,0,none⟩),x3,.slice (some ⟨tb,0,none⟩) P P,.bool pa,x6] 136 from HH1.out) rfl)
    go_step
    go_step
    exact look_tail (by rfl) (by rfl) (by rfl) (by rfl) p4 hln h4 HTH HVV HBB hvb HR HQQ
end
section
variable {w:World} {lk:Int} {lo mb:Nat} {sd:Int} {P sb hb cap tb:Nat} {gv uv:Value} {bs:List Nat} {g:Nat} {pbs:List Nat}
end
end Go.Proofs.YtdianedehhecoaaGreatDoor
/- Someone watches a match: Match.Watch, Host.Watch. -/
namespace Go.Proofs.YtdianedehhecoaaGreatDoor
open Go.RowKit Go.MuLone
structure Fut1 (w w':World):Prop where
 heap:∀ k:Nat,w'.heap[k]? = w.heap[k]?
 size:w'.heap.size=w.heap.size
 below:∀ lo,Below lo w w'
theorem fut1_drew (w:World):Fut1 w w.drew:=⟨fun _=>rfl,rfl,fun _=>(Below.refl _ _).drew⟩
structure MOn (w:World)(lo mb:Nat)(sd:Int)(P sb hb cap tb:Nat)(gv uv:Value)(bs:List Nat)(g:Nat)(pbs:List Nat)(wl wt wc:Nat):Prop where
 cells:BlkAt w mb [.int .i32 0,.int .u32 0,.pointer (some ⟨sb,0,none⟩),.slice (some ⟨hb,0,none⟩) 1 cap,.slice (some ⟨tb,0,none⟩) P P,.bool false,.slice (some ⟨wl,0,none⟩) 1 wc] 136
 row:RowAt w 9 1 (.slice (some ⟨hb,0,none⟩) 1 cap) 1 [.string (hash16 (bytesF (startTo sd P)))]
 seats:BlkAt w tb (seatV pbs P) 182
 players:∀ i,i<pbs.length→BlkAt w (pbs.getD i 0) (playerV i) 184
 ub:uv.ownBlock=some g
 state:PAt w (fun k=>lo≤k∧k≠mb∧k≠tb∧k≠hb∧k ∉ pbs∧k≠wl∧k≠wt) sb (toPS (startTo sd P)) gv uv bs
 wrow:RowAt w 113 1 (.slice (some ⟨wl,0,none⟩) 1 wc) 1 [.pointer (some ⟨wt,0,none⟩)]
 wat:BlkAt w wt [.pointer (some ⟨mb,0,none⟩),.slice none 0 0] 187
 lm:lo≤mb
 lt:lo≤tb
 lh:lo≤hb
 ll:lo≤wl
 lw:lo≤wt
 lp:∀ k,k∈pbs→lo≤k∧k≠mb∧k≠tb∧k≠hb∧k≠wl∧k≠wt
 d1:mb≠tb
 d2:mb≠hb
 d3:tb≠hb
 d4:wl≠mb∧wl≠tb∧wl≠hb
 d5:wt≠mb∧wt≠tb∧wt≠hb
 d6:wl≠wt
section
variable {w:World} {hbk rb:Nat} {lo mb:Nat} {sd:Int} {P sb hb cap tb:Nat} {gv uv:Value} {bs:List Nat} {g:Nat} {pbs:List Nat}
theorem wstore_any (b o nb:Nat)(x u:Value)(w:World)(hc:w.cell? ⟨b,o,none⟩=some u)(hz:w.frozen? ⟨b,o,none⟩=false)(hm:w.cell? ⟨nb,0,none⟩=some x) :
  Calls Pz.prog 94 #[.pointer (some ⟨b,o,none⟩),.pointer (some ⟨nb,0,none⟩)] w fun e w'=>e=.returned (.tuple #[])∧w'=w.setCell ⟨b,o,none⟩ (.pointer (some ⟨nb,0,none⟩)):=by
 have hst:=run_call_storeP (P:=Pz.prog) (w:=w) Pz.func114 (by kernel_rfl) (by kernel_rfl) (by kernel_rfl) (by kernel_rfl) (y:=some ⟨nb,0,none⟩) hc hz
 have hcv:=run_convert_to_unsafe (P:=Pz.prog) (src:=113) (dst:=115) (t:=187) (by kernel_rfl) (by kernel_rfl) (by kernel_rfl) hm
 go_enter Pz.func94,Tryz.ntmps94
 go_wp2
 go_end0
 exact ⟨rfl,rfl⟩
end
end Go.Proofs.YtdianedehhecoaaGreatDoor
/- Host.Look of a new match; one watcher more of a new play. -/
namespace Go.Proofs.YtdianedehhecoaaGreatDoor
open Go.RowKit
section
variable {w:World} {hbk rb:Nat} {lo mb:Nat} {sd:Int} {P sb hb cap tb:Nat} {gv uv:Value} {bs:List Nat} {g:Nat} {pbs:List Nat}
end
end Go.Proofs.YtdianedehhecoaaGreatDoor