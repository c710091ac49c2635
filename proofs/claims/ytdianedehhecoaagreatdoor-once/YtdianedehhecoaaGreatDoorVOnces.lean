/- Once: what it asks of the play's turns and of what was taken. -/
import Derived.Test.YtdianedehhecoaaGreatDoorVPlayTicks
set_option linter.unusedVariables false
set_option linter.unusedSimpArgs false
set_option maxHeartbeats 8000000
set_option maxRecDepth 20000
namespace Go.Proofs.YtdianedehhecoaaGreatDoor
open Go.RowKit
def cntN (l:List RC)(n:Nat):Nat:=(l.filter fun c=>c.p == (n:Int)).length
theorem cntN_append (a b:List RC)(n:Nat):cntN (a++b) n=cntN a n+cntN b n:=by simp [cntN]
theorem cntN_one (c:RC)(n m:Nat)(h:c.p=(n:Int)):cntN [c] m=if m=n then 1 else 0:=by
 unfold cntN
 by_cases e:m=n
 ·subst e
  simp[h]
 ·rw[if_neg e,List.filter_eq_nil_iff.2]
  ·rfl
  ·intro d hd
   obtain rfl:d=c:=by simpa using hd
   rw[h]
   simp only[beq_iff_eq]
   omega
theorem five_eq {a b:ByteArray}(ha:a.size=5)(hb:b.size=5)(h:cmdAt a 0=cmdAt b 0):a=b:=by
 have ha':a.data.toList.length=5:=by rw[Array.length_toList];exact ha
 have hb':b.data.toList.length=5:=by rw[Array.length_toList];exact hb
 have key:∀ i,byt a i=byt b i→i<5→a.data.toList[i]? = b.data.toList[i]?:=fun i e hi=>by
  unfold byt at e
  rw[List.getElem?_eq_getElem (by omega),List.getElem?_eq_getElem (by omega)]
  simp only[List.getD,List.getElem?_eq_getElem (show i<a.data.toList.length by omega),List.getElem?_eq_getElem (show i<b.data.toList.length by omega),Option.getD_some]at e
  congr 1
  exact UInt8.toNat_inj.1 (by omega)
 unfold cmdAt at h
 injection h with e0 e1 e2 e3 e4
 apply ByteArray.ext
 apply Array.ext'
 refine List.ext_getElem? fun i=>?_
 by_cases hi:i<5
 ·have hc:i=0∨i=1∨i=2∨i=3∨i=4:=by omega
  rcases hc with rfl|rfl|rfl|rfl|rfl
  ·exact key 0 e0 (by omega)
  ·exact key 1 e1 (by omega)
  ·exact key 2 e2 (by omega)
  ·exact key 3 e3 (by omega)
  ·exact key 4 e4 (by omega)
 ·rw[List.getElem?_eq_none (by omega),List.getElem?_eq_none (by omega)]
def cmdS (T:List (List RC))(k j:Nat):ByteArray:=(turnsB T).extract (endOf T k+1+5*j) (endOf T k+1+5*j+5)
theorem cmdS_at {T:List (List RC)}(hT:TOk T){k j:Nat}{cs:List RC}{c:RC}(hk:T[k]? = some cs)(hj:cs[j]? = some c):cmdAt (cmdS T k j) 0=c∧(cmdS T k j).size=5∧endOf T k+1+5*j+5≤(turnsB T).size:=by
 obtain ⟨hl,he⟩:=List.getElem?_eq_some_iff.1 hk
 have hm:cs∈T:=he▸List.getElem_mem hl
 have hjl:=(List.getElem?_eq_some_iff.1 hj).1
 have e:T=T.take k++(cs :: T.drop (k+1)):=by rw[← he,← List.drop_eq_getElem_cons hl,List.take_append_drop]
 have e2:turnsB T=turnsB (T.take k)++(sealS cs++turnsB (T.drop (k+1))):=by
  conv=>lhs;rw[e]
  rw[turnsB_append,show cs :: T.drop (k+1)=[cs]++T.drop (k+1) from rfl,turnsB_append,turnsB_one]
 have hs:=sealS_size cs
 have hsz:endOf T k+1+5*j+5≤(turnsB T).size:=by
  rw[e2,ByteArray.size_append,ByteArray.size_append]
  unfold endOf
  omega
 have key:∀ i,i<5→byt (cmdS T k j) i=byt (sealS cs) (1+5*j+i):=fun i hi=>by
  unfold cmdS
  rw[byt_extract _ _ _ _ hsz (by omega),e2]
  have:=byt_right (turnsB (T.take k)) (sealS cs++turnsB (T.drop (k+1))) (1+5*j+i)
  rw[byt_left (sealS cs) _ _ (by omega)]at this
  rw[← this]
  congr 1
  unfold endOf
  omega
 refine ⟨?_,?_,hsz⟩
 ·have hc:=sealS_cmd cs j c hj ((hT cs hm).2 c (List.mem_of_getElem? hj))
  rw[← hc]
  unfold cmdAt
  rw[key 0 (by omega),key (0+1) (by omega),key (0+2) (by omega),key (0+3) (by omega),key (0+4) (by omega)]
  rfl
 ·unfold cmdS
  rw[ByteArray.size_extract]
  omega
def lastP (cs:List RC):Nat→Int
 | 0=>0
 | j+1=>((cs[j]?).map (·.p)).getD 0
theorem lastP_le {cs:List RC}(h:cs.Pairwise fun c d=>c.p≤d.p){j:Nat}{c:RC}(hj:cs[j]? = some c)(h0:0≤c.p):lastP cs j≤c.p:=by
 cases j with
 | zero=>exact h0
 | succ j =>
  obtain ⟨hl,he⟩:=List.getElem?_eq_some_iff.1 hj
  have:=List.pairwise_iff_getElem.1 h j (j+1) (by omega) hl (by omega)
  simp only[lastP,List.getElem?_eq_getElem (show j<cs.length by omega),Option.map_some,Option.getD_some]
  rw[← he]
  exact this
theorem sumTo_more (f:Nat→Nat)(P n:Nat)(h:∀ i,P≤i→f i=0)(hn:P≤n):sumTo f n=sumTo f P:=by
 induction n with
 | zero=>rw[show P=0 by omega]
 | succ n ih =>
  rcases Nat.lt_or_ge n P with x|x
  ·rw[show P=n+1 by omega]
  ·simp only[sumTo]
   rw[ih x,h n x,Nat.add_zero]
structure OnceS (P:Nat)(T:List (List RC))(tks:Nat→List ByteArray)(wa:Nat):Prop where
 okT:TOk T
 most:T.length≤1000
 p4:P≤4
 next:∀ (k j:Nat) (cs:List RC) (c:RC),T[k]? = some cs→cs[j]? = some c→∃ n:Nat,c.p=(n:Int)∧n<P∧lastP cs j≤n∧(tks n)[cntN ((T.take k).flatten++cs.take j) n]? = some (cmdS T k j)∧(cmdS T k j).size=5∧byt (cmdS T k j) 0=(n:Int)∧endOf T k+1+5*j+5≤(turnsB T).size
 sum:sumTo (fun q=>(tks q).length-cntN T.flatten q) 4=wa
 le:∀ q,cntN T.flatten q≤(tks q).length
 few:∀ q,(tks q).length≤40000
theorem Hist.once {sd:Int}{P:Nat}{Q:PSt}{T:List (List RC)}(h:Hist sd P Q T)(hM:MOk Q.M)(p4:P≤4):OnceS P T (fun i=>(Q.tk i).bs) (sumTo Q.M.waits Q.M.ps.length):=by
 have hps:=h.size
 have at_:∀ q,q<P→∃ p,Q.M.ps[q]? = some p:=fun q hq=>⟨_,List.getElem?_eq_getElem (by omega)⟩
 have len:∀ q p,Q.M.ps[q]? = some p→(Q.tk q).bs.length=cntN T.flatten q+p.cs.length:=fun q p hp=>by
  have e:=congrArg List.length (h.taken q p hp).1
  rw[List.length_map,List.length_append]at e
  exact e
 have none':∀ q,P≤q→cntN T.flatten q=0:=fun q hq=>by
  unfold cntN
  rw[List.filter_eq_nil_iff.2]
  ·rfl
  ·intro c hc
   obtain ⟨cs,h1,h2⟩:=List.mem_flatten.1 hc
   have:=h.inT cs h1 c h2
   simp only[beq_iff_eq]
   omega
 refine ⟨h.okT,h.most,p4,fun k j cs c hk hj=>?_,?_,fun q=>?_,fun q=>?_⟩
 ·obtain ⟨hl,he⟩:=List.getElem?_eq_some_iff.1 hk
  obtain ⟨hjl,hje⟩:=List.getElem?_eq_some_iff.1 hj
  have hm:cs∈T:=he▸List.getElem_mem hl
  have hc:=h.inT cs hm c (List.mem_of_getElem? hj)
  obtain ⟨n,hn⟩:∃ n:Nat,c.p=(n:Int):=⟨c.p.toNat,by omega⟩
  obtain ⟨b1,b2,b3⟩:=cmdS_at h.okT hk hj
  obtain ⟨p,hp⟩:=at_ n (by omega)
  obtain ⟨t1,t2,-,-⟩:=h.taken n p hp
  refine ⟨n,hn,by omega,by rw[← hn];exact lastP_le (h.order cs hm) hj hc.1,?_,b2,?_,b3⟩
  ·have e:T.flatten=((T.take k).flatten++cs.take j)++(c :: (cs.drop (j+1)++(T.drop (k+1)).flatten)):=by
    have e1:T=T.take k++(cs :: T.drop (k+1)):=by rw[← he,← List.drop_eq_getElem_cons hl,List.take_append_drop]
    have e2:cs=cs.take j++(c :: cs.drop (j+1)):=by rw[← hje,← List.drop_eq_getElem_cons hjl,List.take_append_drop]
    conv=>lhs;rw[e1]
    rw[List.flatten_append,List.flatten_cons]
    conv=>lhs;rw[e2]
    simp
   generalize (T.take k).flatten++cs.take j=F at *
   have hx:((Q.tk n).bs.map fun b=>cmdAt b 0)[cntN F n]? = some c:=by
    rw[t1,e,List.filter_append,List.append_assoc,List.getElem?_append_right (show (F.filter fun c=>c.p == (n:Int)).length≤cntN F n from Nat.le_refl _),show cntN F n-(F.filter fun c=>c.p == (n:Int)).length=0 from Nat.sub_self _,List.filter_cons_of_pos (by simp[hn])]
    rfl
   rw[List.getElem?_map]at hx
   obtain ⟨b,hb,hbc⟩:=Option.map_eq_some_iff.1 hx
   rw[hb,five_eq (t2 b (List.mem_of_getElem? hb)) b2 (hbc.trans b1.symm)]
  ·rw[← hn,← b1]
   rfl
 ·have e:(fun q=>(Q.tk q).bs.length-cntN T.flatten q)=Q.M.waits:=by
   funext q
   unfold MSt.waits
   cases hp:Q.M.ps[q]? with
   | none =>
    have:P≤q:=by rw[← hps];exact List.getElem?_eq_none_iff.1 hp
    rw[h.noTk q this]
    simp
   | some p =>
    rw[len q p hp]
    simp
  show sumTo (fun q=>(Q.tk q).bs.length-cntN T.flatten q) 4=_
  rw[e,hps]
  exact sumTo_more _ P 4 (fun i hi=>by
   unfold MSt.waits
   rw[List.getElem?_eq_none (by omega)]
   rfl) p4
 ·rcases Nat.lt_or_ge q P with x|x
  ·obtain ⟨p,hp⟩:=at_ q x
   rw[len q p hp]
   omega
  ·rw[none' q x]
   omega
 ·rcases Nat.lt_or_ge q P with x|x
  ·obtain ⟨p,hp⟩:=at_ q x
   have:=h.tk_le hM hp
   have:=(h.taken q p hp).2.2.1
   show (Q.tk q).bs.length≤40000
   omega
  ·show (Q.tk q).bs.length≤40000
   rw[h.noTk q x]
   simp
end Go.Proofs.YtdianedehhecoaaGreatDoor
/- Once behind its calls of the play: alone. -/
namespace Go.Proofs.YtdianedehhecoaaGreatDoor
open Go.RowKit
noncomputable def cOnc:Code:=(Tryz.f6.body).getD .skip
theorem lit172 (f:Nat→Value):((List.range 172).map f).toArray=#[f 0,f 1,f 2,f 3,f 4,f 5,f 6,f 7,f 8,f 9,f 10,f 11,f 12,f 13,f 14,f 15,f 16,f 17,f 18,f 19,f 20,f 21,f 22,f 23,f 24,f 25,f 26,f 27,f 28,f 29,f 30,f 31,f 32,f 33,f 34,f 35,f 36,f 37,f 38,f 39,f 40,f 41,f 42,f 43,f 44,f 45,f 46,f 47,f 48,f 49,f 50,f 51,f 52,f 53,f 54,f 55,f 56,f 57,f 58,f 59,f 60,f 61,f 62,f 63,f 64,f 65,f 66,f 67,f 68,f 69,f 70,f 71,f 72,f 73,f 74,f 75,f 76,f 77,f 78,f 79,f 80,f 81,f 82,f 83,f 84,f 85,f 86,f 87,f 88,f 89,f 90,f 91,f 92,f 93,f 94,f 95,f 96,f 97,f 98,f 99,f 100,f 101,f 102,f 103,f 104,f 105,f 106,f 107,f 108,f 109,f 110,f 111,f 112,f 113,f 114,f 115,f 116,f 117,f 118,f 119,f 120,f 121,f 122,f 123,f 124,f 125,f 126,f 127,f 128,f 129,f 130,f 131,f 132,f 133,f 134,f 135,f 136,f 137,f 138,f 139,f 140,f 141,f 142,f 143,f 144,f 145,f 146,f 147,f 148,f 149,f 150,f 151,f 152,f 153,f 154,f 155,f 156,f 157,f 158,f 159,f 160,f 161,f 162,f 163,f 164,f 165,f 166,f 167,f 168,f 169,f 170,f 171]:=by kernel_rfl
structure OncAt (W:World)(pb hbk m P:Nat)(T:List (List RC))(n sg scap:Nat)(tv:Nat→Value)(tks:Nat→List ByteArray):Prop where
 c0:W.cell? ⟨pb,0,none⟩=some (.pointer (some ⟨hbk,0,none⟩))
 c1:W.cell? ⟨pb,1,none⟩=some (.int .i64 m)
 c3:W.cell? ⟨pb,3,none⟩=some (.int .i64 P)
 c8:W.cell? ⟨pb,8,none⟩=some (.slice (some ⟨sg,0,none⟩) n scap)
 one:0<n
 t0:W.cell? ⟨sg,0,none⟩=some (.string (turnsB T))
 ct:∀ i,i<4→W.cell? ⟨pb,4+i,none⟩=some (tv i)
 row:∀ i,RowAt W 9 1 (tv i) (tks i).length ((tks i).map .string)
section
variable {W w':World} {pb hbk m P:Nat} {T:List (List RC)} {n sg scap:Nat} {tv:Nat→Value} {tks:Nat→List ByteArray}
theorem OncAt.on (h:OncAt W pb hbk m P T n sg scap tv tks)(hb:Below W.heap.size W w'):OncAt w' pb hbk m P T n sg scap tv tks :=
 ⟨(hb.cell (cell_lt h.c0)).trans h.c0,(hb.cell (cell_lt h.c1)).trans h.c1,(hb.cell (cell_lt h.c3)).trans h.c3,(hb.cell (cell_lt h.c8)).trans h.c8,h.one,(hb.cell (cell_lt h.t0)).trans h.t0,fun i hi=>(hb.cell (cell_lt (h.ct i hi))).trans (h.ct i hi),fun i=>(h.row i).same fun k hk=>hb.block k ((h.row i).lt hk)⟩
theorem PA.onc {D:Nat→Prop}{sd:Int}{Q:PSt}(h:PA W D pb sd P T Q)(ha:∀ (j:Nat)(u:Wt),Q.M.ws[j]? = some u→u.ts=[]):∃ n sg scap,OncAt W pb Q.hbk Q.m P T n sg scap (fun i=>(Q.tk i).v) (fun i=>(Q.tk i).bs):=by
 obtain ⟨n,sg,scap,ng,ncap,hT⟩:=PA.told2 0 h ha
 obtain ⟨⟨f,hP⟩,hH,rfl,hsi⟩:=h
 have hpl:=hP.play
 have t0:=hT.texts 0 0 hT.first
 rw[List.drop_zero]at t0
 exact ⟨n,sg,scap,hpl.cell rfl,hpl.cell rfl,by rw[← hH.size];exact hpl.cell rfl,hT.seen,hT.one,t0,fun i hi=>hpl.cell (Q.tk_cell i hi),fun i=>hP.row i⟩
def AtB (w:World)(ab:Nat)(wr:World)(f:Nat→Nat):Prop:=BlkAt wr ab [.int .i64 (f 0:Nat),.int .i64 (f 1:Nat),.int .i64 (f 2:Nat),.int .i64 (f 3:Nat)] 49∧ab=w.heap.size∧Below ab w wr
theorem AtB.cell {w wr:World}{ab:Nat}{f:Nat→Nat}(h:AtB w ab wr f){q:Nat}(hq:q<4):wr.cell? ⟨ab,q,none⟩=some (.int .i64 (f q:Nat)):=by
 have hc:q=0∨q=1∨q=2∨q=3:=by omega
 rcases hc with rfl|rfl|rfl|rfl<;>exact h.1.cell rfl
theorem AtB.below {w wr:World}{ab:Nat}{f:Nat→Nat}(h:AtB w ab wr f):Below w.heap.size w wr:=h.2.1▸h.2.2
theorem AtB.bump {w wr:World}{ab:Nat}{f g:Nat→Nat}(h:AtB w ab wr f){q:Nat}(hq:q<4)(hg:∀ i,g i=f i+if i=q then 1 else 0){v:Int}(hv:v=(f q:Int)+1):AtB w ab (wr.setCell ⟨ab,q,none⟩ (.int .i64 v)) g:=by
 refine ⟨?_,h.2.1,h.2.2.setCell (Nat.le_refl _) _⟩
 have hb:=h.1.set q (.int .i64 v)
 have hc:q=0∨q=1∨q=2∨q=3:=by omega
 have e:v=((g q:Nat):Int):=by rw[hg q,if_pos rfl,hv];push_cast;rfl
 rw[e]at hb ⊢
 rcases hc with rfl|rfl|rfl|rfl<;>(simp only[List.set_cons_zero,List.set_cons_succ]at hb;rw[hg 0,hg 1,hg 2,hg 3]at *;simpa using hb)
end
section
variable {wd:World} {pb vb hbk m P:Nat} {T:List (List RC)} {n sg scap wa:Nat} {tv:Nat→Value} {tks:Nat→List ByteArray} {tm:Array Value}
theorem once_tail (h:OncAt wd pb hbk m P T n sg scap tv tks)(hS:OnceS P T tks wa)(v4:wd.cell? ⟨vb,4,none⟩=some (.int .i64 (wa:Nat)))(hz:tm.size=172)(h9:tm.getD 9 undef=.pointer (some ⟨pb,0,none⟩))(h13:tm.getD 13 undef=.pointer (some ⟨vb,0,none⟩))(h14:tm.getD 14 undef=.int .i64 0) :
  Code.wp Pz.prog (after 7 cOnc) (WatQ wd) ⟨tm,[]⟩ wd:=by
 have e:=tmps_lit (n:=172) (tm:=tm) hz
 obtain ⟨f,hf⟩:∃ f:Nat→Value,f=fun i=>tm.getD i undef:=⟨_,rfl⟩
 have e9:f 9=.pointer (some ⟨pb,0,none⟩):=by rw[hf];exact h9
 have e13:f 13=.pointer (some ⟨vb,0,none⟩):=by rw[hf];exact h13
 have e14:f 14=.int .i64 0:=by rw[hf];exact h14
 rw[← hf,lit172]at e
 subst e
 clear hf hz h9 h13 h14
 have c8:=h.c8
 have t0:=h.t0
 have hone:=h.one
 have hoi:(0:Int)<n:=by omega
 have HCut:Hid (Calls Pz.prog 16 #[.string (turnsB T)] wd fun e w2=>∃ v cap,e=.returned (.tuple #[.slice v T.length cap,.bool true])∧Hid (CutAt wd w2 T T.length (.slice v T.length cap)∧OncAt w2 pb hbk m P T n sg scap tv tks∧w2.cell? ⟨vb,4,none⟩=some (.int .i64 (wa:Nat)))):=(cut_any wd T hS.okT hS.most).mono fun e w2 ⟨v,he,hC⟩=>by
  obtain ⟨a,cap,ev⟩:=row_slice hC.row
  subst ev
  exact ⟨a,cap,he,hC,h.on hC.below,(hC.below.cell (cell_lt v4)).trans v4⟩
 have HS:=(show Hid _ from hS)
 have hmo:=hS.most
 have hp4:=hS.p4
 clear h hS v4
 simp only[cOnc,after,Tryz.f6,Option.getD,e9,e13,e14]
 clear e9 e13 e14
 generalize hSS:turnsB T=s at *
 go_wp2_with (go_at_call 16;refine Calls.mono HCut.out ?_;rintro e w2 ⟨va,vcap,rfl,HC⟩)
 have HA0:Hid (AtB w2 w2.heap.size (w2.alloc (.cells #[.int .i64 0,.int .i64 0,.int .i64 0,.int .i64 0] 49)) (fun _=>0)):=⟨BlkAt.new w2 [.int .i64 0,.int .i64 0,.int .i64 0,.int .i64 0] _,rfl,(Below.refl _ _).alloc (Nat.le_refl _) _⟩
 obtain ⟨ab,hab⟩:∃ x,x=w2.heap.size:=⟨_,rfl⟩
 rw[← hab]at HA0 ⊢
 clear hab
 go_loopw [18,19] (fun fv kv wr=>∃ k:Nat,k≤T.length∧fv=.int .i64 (endOf T k:Nat)∧kv=.int .i64 k∧AtB w2 ab wr (fun q=>cntN (T.take k).flatten q)) (fun _ kv _=>T.length-(intOf kv).toNat)
 case atStart=>exact ⟨0,Nat.zero_le _,rfl,rfl,HA0.out⟩
 case round =>
  obtain ⟨k,hk,rfl,rfl,hA⟩:=hrel
  have HA:=(show Hid _ from hA)
  obtain ⟨hC,hO,hv4⟩:=HC.out
  by_cases hlt:k<T.length
  ·obtain ⟨cs,hcs⟩:∃ cs,T[k]? = some cs:=⟨_,List.getElem?_eq_getElem hlt⟩
   have hc36:cs.length≤36:=(HS.out.okT cs (List.mem_of_getElem? hcs)).1
   obtain ⟨g,cap2,ev,-,-,-,hcc,-⟩:=hC.row.form (by omega)
   injection ev with ev1 ev2 ev3
   subst ev1
   subst ev3
   clear ev2
   have ce':w2.cell? ⟨g,k,none⟩=some (.int .i64 (endOf T (k+1):Nat)):=hcc k _ (by
    unfold endsV
    rw[List.getElem?_map,List.getElem?_range hlt]
    rfl)
   have HEnd:Hid (∀ wq f,AtB w2 ab wq f→wq.cell? ⟨g,k,none⟩=some (.int .i64 (endOf T (k+1):Nat))):=fun wq f hq=>(hq.2.2.cell (by rw[hq.2.1];exact cell_lt ce')).trans ce'
   have hnx:=endOf_succ T hcs
   have hel:=endOf_le T (k+1) hlt
   have hsz:=turnsB_size_le T HS.out.okT
   have hki:(k:Int)<T.length:=by omega
   obtain ⟨a,ha⟩:∃ x,x=endOf T k:=⟨_,rfl⟩
   obtain ⟨a',ha'⟩:∃ x,x=endOf T (k+1):=⟨_,rfl⟩
   rw[hSS]at hel hsz
   have HAe:Hid (a=endOf T k∧a'=endOf T (k+1)):=⟨ha,ha'⟩
   rw[← ha',← ha]at hnx
   rw[← ha']at hel HEnd
   rw[← ha]
   have ax:(a:Int)≤200000:=by omega
   clear hC hO hv4 hcc ce' ha ha' hA
   go_wp2_with fail
   go_loopw [20,21] (fun lv iv wq=>∃ j:Nat,j≤cs.length∧lv=.int .i64 (lastP cs j)∧iv=.int .i64 (a+1+5*j:Nat)∧AtB w2 ab wq (fun q=>cntN ((T.take k).flatten++cs.take j) q)) (fun _ iv _=>a'+5-(intOf iv).toNat)
   case atStart=>exact ⟨0,Nat.zero_le _,rfl,by go_num,by rw[List.take_zero,List.append_nil];exact HA.out⟩
   case round =>
    obtain ⟨j,hj,rfl,rfl,hAq⟩:=hrel
    have HAq:=(show Hid _ from hAq)
    have ce:wr.cell? ⟨g,k,none⟩=some (.int .i64 (a':Nat)):=HEnd.out wr _ hAq
    by_cases hjl:j<cs.length
    ·obtain ⟨c,hc⟩:∃ c,cs[j]? = some c:=⟨_,List.getElem?_eq_getElem hjl⟩
     obtain ⟨p,q1,q2,q3,q4,q5,q6,q7⟩:=HS.out.next k j cs c hcs hc
     have hO:=HC.out.2.1.on hAq.below
     have d3:=hO.c3
     have d8:=hO.c8
     have d0:=hO.t0
     have dt:=hO.ct p (by omega)
     have hfew:=HS.out.few p
     obtain ⟨hcl,-⟩:=List.getElem?_eq_some_iff.1 q4
     obtain ⟨g2,cap3,ev,-,-,-,hcc2,-⟩:=(hO.row p).form (by omega)
     have dx:=hcc2 _ (.string (cmdS T k j)) (by rw[List.getElem?_map,q4];rfl)
     have da:=hAq.cell (q:=p) (by omega)
     have df:=hAq.1.free p
     rw[ev]at dt
     rw[hSS]at d0 q7
     have hb0:=byt_get (cmdS T k j) 0 (by omega)
     rw[q6]at hb0
     obtain ⟨x,hx⟩:∃ x,x=cmdS T k j:=⟨_,rfl⟩
     have hxe:s.extract (a+1+5*j) (a+1+5*j+5)=x:=by rw[hx,HAe.out.1,← hSS];rfl
     rw[← HAe.out.1]at q7
     rw[← hx]at dx q5
     have hx0:0<x.size:=by omega
     have e0:((x[0]'hx0).toNat:Int)=p:=by
      have:∀ (y:ByteArray) (h1:0<y.size),x=y→((x[0]'hx0).toNat:Int)=((y[0]'h1).toNat:Int):=fun y h1 h2=>by subst h2;rfl
      rw[this (cmdS T k j) (by rw[← hx];exact hx0) hx]
      exact hb0
     obtain ⟨i,hi⟩:∃ i,i=a+1+5*j:=⟨_,rfl⟩
     obtain ⟨i5,hi5⟩:∃ i5,i5=i+5:=⟨_,rfl⟩
     rw[← hi]at hxe q7
     rw[← hi5]at hxe q7
     have h5:(i:Int)+5=(i5:Int):=by omega
     obtain ⟨cn,hcn⟩:∃ x,x=cntN ((T.take k).flatten++cs.take j) p:=⟨_,rfl⟩
     rw[← hcn]at dx hcl da
     obtain ⟨la,hla⟩:∃ x,x=lastP cs j:=⟨_,rfl⟩
     obtain ⟨tl,htl⟩:∃ x,x=(tks p).length:=⟨_,rfl⟩
     rw[← htl]at dt hcl hfew
     rw[← hla]at q3
     have hn1:¬ (p:Int)<la:=by omega
     have hn2:¬ (P:Int)≤p:=by omega
     have hn3:¬ (tl:Int)≤cn:=by omega
     have hn4:(cn:Int)<tl:=by omega
     have hn5:(p:Int)<4:=by omega
     have hia:(i:Int)<a':=by omega
     have his:(i5:Int)≤s.size:=by omega
     have hx5:(0:Int)<x.size:=by omega
     have HNx:Hid (∀ wq v,AtB w2 ab wq (fun q=>cntN ((T.take k).flatten++cs.take j) q)→v=(cn:Int)+1→AtB w2 ab (wq.setCell ⟨ab,p,none⟩ (.int .i64 v)) (fun q=>cntN ((T.take k).flatten++cs.take (j+1)) q)):=fun wq v h1 h2=>h1.bump (by omega) (fun q=>by
      have e:cs.take (j+1)=cs.take j++[c]:=by
       obtain ⟨h3,h4⟩:=List.getElem?_eq_some_iff.1 hc
       rw[List.take_succ_eq_append_getElem h3,h4]
      rw[e,← List.append_assoc,cntN_append _ [c],cntN_one c p q q1]) (by rw[h2,hcn])
     have HLa:Hid (lastP cs (j+1)=(p:Int)):=by
      show ((cs[j]?).map (·.p)).getD 0=(p:Int)
      rw[hc]
      exact q1
     have HI:Hid (i=a+1+5*j∧i5=i+5):=⟨hi,hi5⟩
     rw[← hla,← hi]
     clear hO hcc2 ev hb0 hx hcn hla htl hi hi5 q1 q4 q6 hc hAq hcs HC HS HCut HA HA0 HEnd hone
     go_wp2_with fail
     go_quiet (fail)
     go_wp2_with fail
     have hAd:AtB w2 ab (wr.drewN nq) (fun q=>cntN ((T.take k).flatten++cs.take j) q):=⟨HAq.out.1,HAq.out.2.1,⟨HAq.out.2.2.os,HAq.out.2.2.tape,HAq.out.2.2.output,HAq.out.2.2.size,HAq.out.2.2.block⟩⟩
     obtain ⟨z1,z2⟩:=HI.out
     exact ⟨⟨j+1,by omega,by rw[HLa.out],by rw[show i5=a+1+5*(j+1) by omega],HNx.out _ _ hAd rfl⟩,by simp[intOf];omega⟩
    ·have hje:j=cs.length:=by omega
     have HFin:Hid (AtB w2 ab wr (fun q=>cntN (T.take (k+1)).flatten q)):=by
      have e:(T.take (k+1)).flatten=(T.take k).flatten++cs.take j:=by
       obtain ⟨h3,h4⟩:=List.getElem?_eq_some_iff.1 hcs
       rw[List.take_succ_eq_append_getElem h3,h4,List.flatten_append,hje,List.take_length]
       simp
      show AtB w2 ab wr _
      rw[e]
      exact hAq
     rw[show a+1+5*j=a' by omega]
     generalize lastP cs j=la at *
     clear hAq HAq hcs HC HS HCut HA HA0 HEnd hone hje hjl hj
     go_wp2_with fail
     exact ⟨⟨k+1,by omega,by rw[← HAe.out.2];congr 1;omega,by go_num,HFin.out⟩,by simp[intOf];omega⟩
  ·obtain rfl:k=T.length:=by omega
   rw[List.take_length]at hA
   obtain ⟨wz,hwz⟩:∃ x,x=wr:=⟨_,rfl⟩
   subst hwz
   have hO:=HC.out.2.1.on hA.below
   have hvz:wz.cell? ⟨vb,4,none⟩=some (.int .i64 (wa:Nat)):=(hA.below.cell (cell_lt hv4)).trans hv4
   obtain ⟨G,hG⟩:∃ G:Nat→Nat,G=fun q=>(tks q).length-cntN T.flatten q:=⟨_,rfl⟩
   have hGa:sumTo G 4=wa:=by rw[hG];exact HS.out.sum
   have HG:Hid (∀ q,q<4→∃ a len cap cn:Nat,∃ ad,wz.cell? ⟨pb,4+q,none⟩=some (.slice ad len cap)∧wz.cell? ⟨ab,q,none⟩=some (.int .i64 (cn:Nat))∧len=G q+cn∧len≤40000):=fun q hq=>by
    obtain ⟨ad,cap,ev⟩:=row_slice (hO.row q)
    have h1:=hO.ct q hq
    rw[ev]at h1
    have h2:=HS.out.le q
    have h3:=HS.out.few q
    exact ⟨0,_,cap,_,ad,h1,hA.cell hq,by rw[hG];show _=_-_+_;omega,h3⟩
   have HGs:Hid (∀ q,q≤4→sumTo G q≤40000*q):=fun q=>by
    induction q with
    | zero=>intro _;simp[sumTo]
    | succ q ih =>
     intro hq
     obtain ⟨_,len,cap,cn,ad,_,_,h3,h4⟩:=HG.out q (by omega)
     have:=ih (by omega)
     simp only[sumTo]
     omega
   have HBW:Hid (Below wd.heap.size wd wz):=hC.below.trans (hA.below.mono hC.below.size)
   clear hA HA hO hC hG HC HS HCut HA0 hone hv4
   go_wp2_with fail
   go_loopw [24,25] (fun lv iv wq=>∃ q m:Nat,q≤4∧iv=.int .i64 q∧lv=.int .i64 (sumTo G q:Nat)∧wq=wz.drewN m) (fun _ iv _=>4-(intOf iv).toNat)
   case atStart=>exact ⟨0,0,by omega,rfl,rfl,rfl⟩
   case round =>
    obtain ⟨q,m,hq,rfl,rfl,rfl⟩:=hrel
    have hsq:=HGs.out q hq
    by_cases hq4:q<4
    ·obtain ⟨_,len,cap,cn,ad,g1,g2,g3,g4⟩:=HG.out q hq4
     have HSu:Hid (sumTo G (q+1)=sumTo G q+(len-cn)):=by
      show sumTo G q+G q=_
      omega
     have hlc:cn≤len:=by omega
     have hq4i:(q:Int)<4:=by omega
     clear g3
     generalize sumTo G q=sm at *
     have hw1:IntKind.i64.wrap ((sm:Int)+len)=(sm:Int)+len:=by simp[IntKind.wrap,IntKind.bits,IntKind.signed];omega
     have hw2:IntKind.i64.wrap ((sm:Int)+len-cn)=(sm:Int)+len-cn:=by simp[IntKind.wrap,IntKind.bits,IntKind.signed];omega
     go_wp2_with fail
     go_quiet (fail)
     go_wp2_with fail
     exact ⟨⟨q+1,m+nq,by omega,by go_num,by rw[HSu.out];congr 1;push_cast [hlc];omega,rfl⟩,by simp[intOf];omega⟩
    ·obtain rfl:q=4:=by omega
     rw[hGa]
     clear hsq
     go_wp2_with fail
     exact ⟨rfl,rfl,rfl,⟨HBW.out.os,HBW.out.tape,HBW.out.output,HBW.out.size,HBW.out.block⟩⟩
end
section
variable {W:World} {pb hbk m P:Nat} {T:List (List RC)} {n sg scap wa:Nat} {tv:Nat→Value} {tks:Nat→List ByteArray} {tm:Array Value} {ph pl tn wn:Int}
theorem once_rest (h:OncAt W pb hbk m P T n sg scap tv tks)(hS:OnceS P T tks wa)
    (hL:∀ w',Below W.heap.size W w'→Calls Pz.prog 20 #[.pointer (some ⟨hbk,0,none⟩),.int .i64 m] w' fun e w2=>e=.returned (.tuple #[.agg #[.int .i64 ph,.bool false,.int .i64 pl,.int .i64 tn,.int .i64 (wa:Nat),.int .i64 wn],.int .i64 0])∧Below w'.heap.size w' w2)
    (hz:tm.size=172)(h9:tm.getD 9 undef=.pointer (some ⟨pb,0,none⟩))(h12:tm.getD 12 undef=.bool true) :
    Code.wp Pz.prog (after 5 cOnc) (WatQ W) ⟨tm,[]⟩ W:=by
  have e:=tmps_lit (n:=172) (tm:=tm) hz
  obtain ⟨f2,hf⟩:∃ f:Nat→Value,f=fun i=>tm.getD i undef:=⟨_,rfl⟩
  have e9:f2 9=.pointer (some ⟨pb,0,none⟩):=by rw[hf];exact h9
  have e12:f2 12=.bool true:=by rw[hf];exact h12
  rw[← hf,lit172]at e
  subst e
  clear hf hz h9 h12
  have HB0:Hid (Below W.heap.size W (W.alloc (.cells #[.int .i64 0,.bool false,.int .i64 0,.int .i64 0,.int .i64 0,.int .i64 0] 46)).drew):=((Below.refl _ _).alloc (Nat.le_refl _) _).drew
  have HN0:Hid (BlkAt (W.alloc (.cells #[.int .i64 0,.bool false,.int .i64 0,.int .i64 0,.int .i64 0,.int .i64 0] 46)).drew W.heap.size viewZ 46):=BlkAt.new W viewZ _
  have hcl:∀ W',Below W.heap.size W W'→W'.cell? ⟨pb,0,none⟩=some (.pointer (some ⟨hbk,0,none⟩))∧W'.cell? ⟨pb,1,none⟩=some (.int .i64 m):=fun W' hb=>⟨(h.on hb).c0,(h.on hb).c1⟩
  have HL0:Hid (∀ W',Below W.heap.size W W'→Calls Pz.prog 20 #[.pointer (some ⟨hbk,0,none⟩),.int .i64 m] W' fun e w'=>e=.returned (.tuple #[.agg #[.int .i64 ph,.bool false,.int .i64 pl,.int .i64 tn,.int .i64 (wa:Nat),.int .i64 wn],.int .i64 0])∧(w'.cell? ⟨pb,0,none⟩=some (.pointer (some ⟨hbk,0,none⟩))∧w'.cell? ⟨pb,1,none⟩=some (.int .i64 m))∧Hid (Below W.heap.size W w')):=fun W' hW=>(hL W' hW).mono fun e w' ⟨he,hb⟩=>by
    have hb':=hW.trans (hb.mono hW.size)
    exact ⟨he,hcl w' hb',hb'⟩
  have HL1:Hid (∀ W' vb,Below W.heap.size W W'→BlkAt W' vb viewZ 46→Calls Pz.prog 20 #[.pointer (some ⟨hbk,0,none⟩),.int .i64 m] W' fun e w'=>e=.returned (.tuple #[.agg #[.int .i64 ph,.bool false,.int .i64 pl,.int .i64 tn,.int .i64 (wa:Nat),.int .i64 wn],.int .i64 0])∧(w'.cell? ⟨pb,0,none⟩=some (.pointer (some ⟨hbk,0,none⟩))∧w'.cell? ⟨pb,1,none⟩=some (.int .i64 m))∧Hid (BlkAt w' vb viewZ 46)∧ViewAt w' vb∧Hid (Below W.heap.size W w')):=fun W' vb hW hv=>(hL W' hW).mono fun e w' ⟨he,hb⟩=>by
    have hb':=hW.trans (hb.mono hW.size)
    have hv':=hv.same (hb.block _ hv.lt)
    exact ⟨he,hcl w' hb',hv',hv'.view,hb'⟩
  have q0:W.cell? ⟨pb,0,none⟩=some (.pointer (some ⟨hbk,0,none⟩)):=h.c0
  have q1:W.cell? ⟨pb,1,none⟩=some (.int .i64 m):=h.c1
  have d0:W.drew.cell? ⟨pb,0,none⟩=some (.pointer (some ⟨hbk,0,none⟩)):=q0
  have d1:W.drew.cell? ⟨pb,1,none⟩=some (.int .i64 m):=q1
  have hpl:pb<W.heap.size:=cell_lt q0
  have dl:pb<W.drew.heap.size:=hpl
  have HT:Hid (∀ (wd:World) (vb:Nat) (tm:Array Value),Below W.heap.size W wd→wd.cell? ⟨vb,4,none⟩=some (.int .i64 (wa:Nat))→tm.size=172→tm.getD 9 undef=.pointer (some ⟨pb,0,none⟩)→tm.getD 13 undef=.pointer (some ⟨vb,0,none⟩)→tm.getD 14 undef=.int .i64 0→Code.wp Pz.prog (after 7 cOnc) (WatQ W) ⟨tm,[]⟩ wd):=fun wd vb tm hb hv hz h9 h13 h14=>wp_mono (once_tail (h.on hb) hS hv hz h9 h13 h14) fun e a w' ⟨r1,r2,r3,r4⟩=>⟨r1,r2,r3,hb.trans (r4.mono hb.size)⟩
  clear h hS hL hcl
  generalize hQQ:WatQ W=QQ at *
  simp only[cOnc,after,Tryz.f6,Option.getD,e9,e12]
  clear e9 e12
  go_wp2_with fail
  go_region_held3 (fun w'=>w'.cell? ⟨pb,0,none⟩=some (.pointer (some ⟨hbk,0,none⟩))∧w'.cell? ⟨pb,1,none⟩=some (.int .i64 m)) (first|(with_reducible assumption)|(refine ⟨?_,?_⟩<;>first|(with_reducible assumption)|(rw[World.cell?_alloc_past];(with_reducible assumption);first|exact dl|(with_reducible assumption))|(rw[cell_set6 _ _ _ _ _ _ _ _ _ _ (by omega)];(with_reducible assumption)))|go_keep) (first
    | (go_at_call 20;refine Calls.mono (HL0.out _ (by with_reducible exact (Below.refl _ _).drew)) ?_;rintro e w2 ⟨rfl,⟨p0',p1'⟩,hq⟩;have pl':pb<w2.heap.size:=Nat.lt_of_lt_of_le hpl hq.out.size)
    | (go_at_call 20;refine Calls.mono (HL1.out _ _ (by with_reducible exact HB0.out) (by with_reducible exact HN0.out)) ?_;rintro e w2 ⟨rfl,⟨p0',p1'⟩,hv,⟨v0,v1,v2,v3,v4,v5,z0,z1,z2,z3,z4,z5,vl⟩,hq⟩;have pl':pb<w2.heap.size:=Nat.lt_of_lt_of_le hpl hq.out.size))
  all_goals
    first
    | (have hV:BlkAt (w2.alloc (.cells #[.int .i64 ph,.bool false,.int .i64 pl,.int .i64 tn,.int .i64 (wa:Nat),.int .i64 wn] 46)) w2.heap.size [.int .i64 ph,.bool false,.int .i64 pl,.int .i64 tn,.int .i64 (wa:Nat),.int .i64 wn] 46:=BlkAt.new w2 [.int .i64 ph,.bool false,.int .i64 pl,.int .i64 tn,.int .i64 (wa:Nat),.int .i64 wn] _
       have hB:Below W.heap.size W (w2.alloc (.cells #[.int .i64 ph,.bool false,.int .i64 pl,.int .i64 tn,.int .i64 (wa:Nat),.int .i64 wn] 46)):=hq.out.alloc hq.out.size _
       obtain ⟨wd,hwd⟩:∃ x,x=(w2.alloc (.cells #[.int .i64 ph,.bool false,.int .i64 pl,.int .i64 tn,.int .i64 (wa:Nat),.int .i64 wn] 46)):=⟨_,rfl⟩
       obtain ⟨vb,hvd⟩:∃ x,x=w2.heap.size:=⟨_,rfl⟩
       rw[← hwd]at hV hB ⊢
       rw[← hvd]at hV ⊢)
    | (have g0:BlkAt w2 W.heap.size viewZ 46:=(by with_reducible exact hv.out)
       have hV:BlkAt ((((((w2.setCell ⟨W.heap.size,0,none⟩ (.int .i64 ph)).setCell ⟨W.heap.size,1,none⟩ (.bool false)).setCell ⟨W.heap.size,2,none⟩ (.int .i64 pl)).setCell ⟨W.heap.size,3,none⟩ (.int .i64 tn)).setCell ⟨W.heap.size,4,none⟩ (.int .i64 (wa:Nat))).setCell ⟨W.heap.size,5,none⟩ (.int .i64 wn)) W.heap.size [.int .i64 ph,.bool false,.int .i64 pl,.int .i64 tn,.int .i64 (wa:Nat),.int .i64 wn] 46:=(((((g0.set 0 _).set 1 _).set 2 _).set 3 _).set 4 _).set 5 _
       have hB:Below W.heap.size W ((((((w2.setCell ⟨W.heap.size,0,none⟩ (.int .i64 ph)).setCell ⟨W.heap.size,1,none⟩ (.bool false)).setCell ⟨W.heap.size,2,none⟩ (.int .i64 pl)).setCell ⟨W.heap.size,3,none⟩ (.int .i64 tn)).setCell ⟨W.heap.size,4,none⟩ (.int .i64 (wa:Nat))).setCell ⟨W.heap.size,5,none⟩ (.int .i64 wn)):=((((((hq.out.setCell (Nat.le_refl _) _).setCell (Nat.le_refl _) _).setCell (Nat.le_refl _) _).setCell (Nat.le_refl _) _).setCell (Nat.le_refl _) _).setCell (Nat.le_refl _) _)
       obtain ⟨wd,hwd⟩:∃ x,x=((((((w2.setCell ⟨W.heap.size,0,none⟩ (.int .i64 ph)).setCell ⟨W.heap.size,1,none⟩ (.bool false)).setCell ⟨W.heap.size,2,none⟩ (.int .i64 pl)).setCell ⟨W.heap.size,3,none⟩ (.int .i64 tn)).setCell ⟨W.heap.size,4,none⟩ (.int .i64 (wa:Nat))).setCell ⟨W.heap.size,5,none⟩ (.int .i64 wn)):=⟨_,rfl⟩
       obtain ⟨vb,hvd⟩:∃ x,x=W.heap.size:=⟨_,rfl⟩
       rw[← hwd]at hV hB ⊢
       rw[← hvd]at hV ⊢)
    have hv4:=hV.cell (i:=4) rfl
    first
    | exact HT.out wd vb _ hB hv4 (by rfl) (by rfl) (by rfl) (by rfl)
    | (go_step;exact HT.out wd vb _ hB hv4 (by rfl) (by rfl) (by rfl) (by rfl))
    | (go_step;go_step;exact HT.out wd vb _ hB hv4 (by rfl) (by rfl) (by rfl) (by rfl))
end
end Go.Proofs.YtdianedehhecoaaGreatDoor