/- The program's reading of turns: readCommand, readCommands. -/
import Derived.Test.YtdianedehhecoaaGreatDoorTProgBytess
import Derived.Test.YtdianedehhecoaaGreatDoorTProgDos
set_option linter.unusedVariables false
set_option linter.unusedSimpArgs false
set_option maxHeartbeats 4000000
set_option maxRecDepth 100000
namespace Go.Proofs.YtdianedehhecoaaGreatDoor
open Go.RowKit
theorem readCommand_any (s:ByteArray)(h5:s.size=5)(w:World) :
  Calls Pz.prog 137 #[.string s] w fun e w'=>e=.returned (.agg #[.int .i64 (byt s 0),.int .i64 (byt s 1),.int .i64 (byt s 2),.int .i64 (byt s 3),.int .i64 (byt s 4)])∧Below w.heap.size w w':=by
 have g0:=byt_get s 0 (by omega)
 have g1:=byt_get s 1 (by omega)
 have g2:=byt_get s 2 (by omega)
 have g3:=byt_get s 3 (by omega)
 have g4:=byt_get s 4 (by omega)
 have r0:=byt_range s 0
 have r1:=byt_range s 1
 have r2:=byt_range s 2
 have r3:=byt_range s 3
 have r4:=byt_range s 4
 have h5i:(s.size:Int)=5:=by omega
 have h4:(4:Nat)<s.size:=by omega
 generalize byt s 0=x0 at *
 generalize byt s 1=x1 at *
 generalize byt s 2=x2 at *
 generalize byt s 3=x3 at *
 generalize byt s 4=x4 at *
 go_enter Pz.func137,Tryz.ntmps137
 go_wp2
 go_region
 go_wp2
 exact bodyPost_ret (v:=.agg #[.int .i64 x0,.int .i64 x1,.int .i64 x2,.int .i64 x3,.int .i64 x4]) (by simp[results,Tryz.results137,go_sem]) rfl ⟨rfl,(((Below.refl _ _).alloc (Nat.le_refl _) _)).drew⟩
theorem infoComm:(Pz.prog.info? 171).map (fun i=>(i.zero,i.size,i.bytes))=some (some (.agg #[.int .i64 0,.int .i64 0,.int .i64 0,.int .i64 0,.int .i64 0]),5,40):=by kernel_rfl
theorem infoComms:(Pz.prog.info? 81).map (fun i=>(i.zero,i.size,i.bytes))=some (some (.slice none 0 0),1,24):=by kernel_rfl
structure PTurnAt (w:World)(N:Nat)(tv:Value)(cs:List RC):Prop where
 row:RowAt w 171 5 tv cs.length (rcCells cs)
 nil:cs=[]→tv=.slice none 0 0
 blk:∀ k,tv.ownBlock=some k→N≤k
theorem PTurnAt.below {w w':World}{N:Nat}{tv:Value}{cs:List RC}(h:PTurnAt w N tv cs)(hb:Below w.heap.size w w'):PTurnAt w' N tv cs :=
 ⟨h.row.same fun k e=>hb.block k (h.row.lt e),h.nil,h.blk⟩
theorem pturn_step {wo w wa w2:World}{M:Nat}{tv v':Value}{cs:List RC}{c:RC}{o:Obj}(h:PTurnAt w M tv cs)(hb:Below M wo w)(hba:Below w.heap.size w wa)
  (hown:w2.ownsRow 0 171 5 v' (cs.length+1) (rcCells cs++[.int .i64 c.p,.int .i64 c.un,.int .i64 c.wh,.int .i64 c.x,.int .i64 c.y]))(hg:(wa.alloc o).grownBy w2 tv.ownBlock)
  (hob:v'.ownBlock=tv.ownBlock∨v'.ownBlock=some (wa.heap.size+1))(hM:M≤wo.heap.size):PTurnAt w2 M v' (cs++[c])∧Below M wo w2:=by
 have hsz:=hb.size
 have hsa:=hba.size
 refine ⟨⟨?_,fun e=>by simp at e,fun k e=>?_⟩,((hb.trans (hba.mono (by omega))).alloc (by omega) _).grown hg (by simp;omega) h.blk⟩
 ·have e1:rcCells (cs++[c])=rcCells cs++[.int .i64 c.p,.int .i64 c.un,.int .i64 c.wh,.int .i64 c.x,.int .i64 c.y]:=by simp[rcCells,RC.cells]
  rw[e1,List.length_append]
  exact hown
 ·rcases hob with e2|e2
  ·rw[e2]at e;exact h.blk k e
  ·rw[e2]at e
   have:k=wa.heap.size+1:=by injection e with e;exact e.symm
   omega
theorem byt_extract (s:ByteArray)(a b i:Nat)(hb:b≤s.size)(hi:a+i<b):byt (s.extract a b) i=byt s (a+i):=by
 have h1:(s.extract a b).size=b-a:=by rw[ByteArray.size_extract];omega
 have e:(s.extract a b).data.toList=(s.data.toList.drop a).take (b-a):=by simp[ByteArray.data_extract,List.extract_eq_take_drop]
 unfold byt
 rw[e]
 simp only[List.getD,List.getElem?_take,List.getElem?_drop]
 rw[if_pos (by omega)]
theorem readCommands_any (s:ByteArray)(n:Nat)(hn:n≤36)(hs:s.size=5*n)(w:World) :
  Calls Pz.prog 74 #[.string s] w fun e w'=>(∃ tv,e=.returned tv∧PTurnAt w' w.heap.size tv (cmdsAt s 0 n))∧Below w.heap.size w w':=by
 obtain ⟨i0,hi,hz0,hz1,hz2⟩:=info_parts infoComm
 have Hs:Hid (s.size=5*n):=hs
 have hs2:s.size≤180:=by omega
 clear hs
 go_enter Pz.func74,Tryz.ntmps74
 go_wp2
 go_loopw [3,4] (fun tv av wr=>∃ i m:Nat,i≤n∧m=5*i∧av=.int .i64 m∧PTurnAt wr w.heap.size tv (cmdsAt s 0 i)∧Below w.heap.size w wr) (fun _ av _=>s.size-(intOf av).toNat)
 case atStart=>exact ⟨0,0,Nat.zero_le _,rfl,rfl,⟨⟨rfl,.inl ⟨rfl,rfl⟩⟩,fun _=>rfl,fun k e=>(by cases e)⟩,Below.refl _ _⟩
 case round =>
  obtain ⟨i,m,hin,hm,rfl,htv,hbel⟩:=hrel
  have HM:Hid (m=5*i):=hm
  clear hm
  by_cases hlt:i<n
  ·have hm1:m+5≤s.size:=by have:=HM.out;have:=Hs.out;omega
   have hm2:(m:Int)+5≤s.size:=by omega
   have hcl:=cmdsAt_len s 0 i
   have Htv:=(show Hid _ from htv)
   have HC:Hid (cmdsAt s 0 (i+1)=cmdsAt s 0 i++[cmdAt s m]):=by unfold Hid;rw[HM.out];simp[cmdsAt]
   have he5:(s.extract m (m+5)).size=5:=by rw[ByteArray.size_extract];omega
   have hsz:=hbel.size
   clear htv
   go_wp2_with fail
   refine (readCommand_any _ he5 _).mono ?_
   rintro e wa ⟨rfl,hba⟩
   have e0:=byt_extract s m (m+5) 0 hm1 (by omega)
   have e1:=byt_extract s m (m+5) 1 hm1 (by omega)
   have e2:=byt_extract s m (m+5) 2 hm1 (by omega)
   have e3:=byt_extract s m (m+5) 3 hm1 (by omega)
   have e4:=byt_extract s m (m+5) 4 hm1 (by omega)
   rw[e0,e1,e2,e3,e4]
   rw[Nat.add_zero]
   clear e0 e1 e2 e3 e4
   have hra:=(Htv.out.below hba).row
   go_wp2_with (at_builtin;refine wpList_append_own_at _ rfl _ _ 81 rfl 0 171 i0 _ 5 40 ((Pz.gUnderlying 81).trans Tryz.underlying81) hi hz0 hz1 hz2 rfl (by decide) _ _ _ rfl (RowAt.alloc hra _) ⟨wa.heap.size,0,none⟩ 1 1 [.int .i64 (byt s m),.int .i64 (byt s (m+1)),.int .i64 (byt s (m+2)),.int .i64 (byt s (m+3)),.int .i64 (byt s (m+4))] rfl rfl ?c1 ?c2 ?c3 ?c4 ?c5 ?_)
   case c1 =>
    intro j u hj
    match j,hj with
    | 0,hj=>simp at hj;subst hj;simp[Addr.add]
    | 1,hj=>simp at hj;subst hj;simp[Addr.add]
    | 2,hj=>simp at hj;subst hj;simp[Addr.add]
    | 3,hj=>simp at hj;subst hj;simp[Addr.add]
    | 4,hj=>simp at hj;subst hj;simp[Addr.add]
    | j+5,hj=>simp at hj
   case c2=>intro u hu;simp at hu;rcases hu with rfl|rfl|rfl|rfl|rfl<;>rfl
   case c3=>rw[hcl];unfold maxLen;omega
   case c4=>rw[hcl];omega
   case c5=>exact Nat.zero_le _
   ·intro v' w2 hown hg hnil hob
    have hfin:=pturn_step (c:=cmdAt s m) Htv.out hbel hba (by rw[hcl];exact hown) hg hob (Nat.le_refl _)
    rw[← HC.out]at hfin
    have Hfin:=(show Hid _ from hfin)
    clear hfin hown hg hnil hob hra hba
    go_wp2
    go_roundw
    case rel =>
     go_light
     refine ⟨i+1,m+5,by omega,by have:=HM.out;omega,by go_num,Hfin.out.1,Hfin.out.2⟩
    case measure=>simp[intOf];omega
  ·have hin2:i=n:=by omega
   subst hin2
   have hmm:¬ m<s.size:=by have:=HM.out;have:=Hs.out;omega
   go_wp2
   go_ret
   exact ⟨⟨_,rfl,htv⟩,hbel⟩
end Go.Proofs.YtdianedehhecoaaGreatDoor
/- The program's ReadTurns. -/
namespace Go.Proofs.YtdianedehhecoaaGreatDoor
open Go.RowKit
structure PTurnsAt (w:World)(N:Nat)(ov:Value)(css:List (List RC))(tvs:List Value):Prop where
 len:tvs.length=css.length
 row:RowAt w 81 1 ov css.length tvs
 blk:∀ k,ov.ownBlock=some k→N≤k
 each:∀ i,i<css.length→PTurnAt w N (tvs.getD i (.slice none 0 0)) (css.getD i [])∧∀ k,(tvs.getD i (.slice none 0 0)).ownBlock=some k→ov.ownBlock≠some k
theorem PTurnsAt.below {w w':World}{N:Nat}{ov:Value}{css:List (List RC)}{tvs:List Value}(h:PTurnsAt w N ov css tvs)(hb:Below w.heap.size w w'):PTurnsAt w' N ov css tvs :=
 ⟨h.len,h.row.same fun k e=>hb.block k (h.row.lt e),h.blk,fun i hi=>⟨(h.each i hi).1.below hb,(h.each i hi).2⟩⟩
theorem pturns_step {w0 wr wq w2:World}{N:Nat}{ov tv v':Value}{css:List (List RC)}{cs:List RC}{tvs:List Value}{o:Obj}(h:PTurnsAt wr N ov css tvs)(h0:Below N w0 wr)(hN:N≤w0.heap.size)
  (hb:Below wr.heap.size wr wq)(ht:PTurnAt wq wr.heap.size tv cs)(hown:w2.ownsRow 0 81 1 v' (css.length+1) (tvs++[tv]))(hg:(wq.alloc o).grownBy w2 ov.ownBlock)
  (hob:v'.ownBlock=ov.ownBlock∨v'.ownBlock=some (wq.heap.size+1)):PTurnsAt w2 N v' (css++[cs]) (tvs++[tv])∧Below N w0 w2:=by
 have z0:=h0.size
 have z1:=hb.size
 have hlt:∀ k,ov.ownBlock=some k→k<wr.heap.size:=fun k e=>h.row.lt e
 have hself:∀ k,k<wq.heap.size→ov.ownBlock≠some k→w2.heap[k]? = wq.heap[k]?:=fun k hk hne=>by
  rw[hg.block k (by simp;omega) (fun e=>hne e.symm),Below.heap_alloc _ _ _ hk]
 refine ⟨⟨by simp[h.len],by rw[List.length_append];exact hown,fun k e=>?_,fun i hi=>?_⟩,((h0.trans (hb.mono (by omega))).alloc (by omega) _).grown hg (by simp;omega) h.blk⟩
 ·rcases hob with e2|e2
  ·rw[e2]at e;exact h.blk k e
  ·rw[e2]at e
   have:k=wq.heap.size+1:=by injection e with e;exact e.symm
   omega
 ·simp only[List.length_append,List.length_singleton]at hi
  by_cases hi2:i<css.length
  ·have e1:(tvs++[tv]).getD i (.slice none 0 0)=tvs.getD i (.slice none 0 0):=by simp[List.getD,List.getElem?_append_left (show i<tvs.length by rw[h.len];exact hi2)]
   have e2:(css++[cs]).getD i []=css.getD i []:=by simp[List.getD,List.getElem?_append_left hi2]
   rw[e1,e2]
   obtain ⟨ha,hn⟩:=h.each i hi2
   refine ⟨⟨ha.row.same fun k e=>?_,ha.nil,ha.blk⟩,fun k e=>?_⟩
   ·have hk:=ha.row.lt e
    rw[hself k (by omega) (hn k e),hb.block k hk]
   ·have hk:=ha.row.lt e
    rcases hob with q|q
    ·rw[q];exact hn k e
    ·rw[q];intro q2;injection q2 with q2;omega
  ·have hie:i=css.length:=by omega
   subst hie
   have e1:(tvs++[tv]).getD css.length (.slice none 0 0)=tv:=by rw[← h.len];simp[List.getD]
   have e2:(css++[cs]).getD css.length []=cs:=by simp[List.getD]
   rw[e1,e2]
   refine ⟨⟨ht.row.same fun k e=>?_,ht.nil,fun k e=>by have:=ht.blk k e;omega⟩,fun k e=>?_⟩
   ·exact hself k (ht.row.lt e) (fun q=>by have:=hlt k q;have:=ht.blk k e;omega)
   ·have hk:=ht.row.lt e
    have hk2:=ht.blk k e
    rcases hob with q|q
    ·rw[q];intro q2;have:=hlt k q2;omega
    ·rw[q];intro q2;injection q2 with q2;omega
def PTurnsSaid (N:Nat)(r:Option (List (List RC)))(e:Ending)(w':World):Prop :=
 match r with
 | none=>e=.returned (.tuple #[.slice none 0 0,.bool false])
 | some css=>∃ ov tvs,e=.returned (.tuple #[ov,.bool true])∧PTurnsAt w' N ov css tvs
theorem cmdsAt_congr (T s:ByteArray)(b n:Nat)(h:∀ i,i<5*n→byt T i=byt s (b+i)):cmdsAt T 0 n=cmdsAt s b n:=by
 induction n with
 | zero=>rfl
 | succ n ih =>
  simp only[cmdsAt]
  rw[ih (fun i hi=>h i (by omega))]
  have e:cmdAt T (0+5*n)=cmdAt s (b+5*n):=by
   unfold cmdAt
   rw[Nat.zero_add,h (5*n) (by omega),h (5*n+1) (by omega),h (5*n+2) (by omega),h (5*n+3) (by omega),h (5*n+4) (by omega)]
   simp[Nat.add_assoc]
  rw[e]
theorem ReadTurns_any (s:ByteArray)(w:World)(hs:s.size≤140737488351232) :
  Calls Pz.prog 37 #[.string s] w fun e w'=>PTurnsSaid w.heap.size (turnsF s) e w'∧Below w.heap.size w w':=by
 go_enter Pz.func37,Tryz.ntmps37
 go_wp2
 go_loopw [0,4] (fun xt o wr=>∃ (a left fuel:Nat) (T:ByteArray) (css:List (List RC)) (tvs:List Value),a+T.size=s.size∧xt=.string T∧(∀ i,i<T.size→byt T i=byt s (a+i))∧css.length+left=1000∧s.size<a+fuel∧turnsF s=(readF s fuel a left).map (fun l=>css++l)∧PTurnsAt wr w.heap.size o css tvs∧Below w.heap.size w wr) (fun xt _ _=>match xt with|.string T=>T.size|_=>0)
 case atStart =>
  refine ⟨0,1000,s.size+1,s,[],[],by omega,rfl,fun i _=>by rw[Nat.zero_add],rfl,by omega,?_,⟨rfl,⟨rfl,.inl ⟨rfl,rfl⟩⟩,fun k e=>(by cases e),fun i hi=>(by simp at hi)⟩,Below.refl _ _⟩
  unfold turnsF;simp
 case round =>
  obtain ⟨a,left,fuel,T,css,tvs,ha,rfl,hT,hl,hf,hrd,hta,hbel⟩:=hrel
  obtain ⟨fuel,rfl⟩:∃ f,fuel=f+1:=⟨fuel-1,by omega⟩
  obtain ⟨oa,ocap,hov⟩:∃ oa ocap,u4=.slice oa css.length ocap:=by
   rcases hta.row.2 with ⟨h1,h2⟩|⟨g,cap,cur,h1,_⟩
   ·exact ⟨none,0,by rw[h1,h2]⟩
   ·exact ⟨_,_,h1⟩
  subst hov
  have Hta:Hid (PTurnsAt wr w.heap.size (.slice oa css.length ocap) css tvs):=hta
  have Hrd:Hid (turnsF s=(readF s (fuel+1) a left).map (fun l=>css++l)):=hrd
  have HT:Hid (∀ i,i<T.size→byt T i=byt s (a+i)):=hT
  have Ha:Hid (a+T.size=s.size):=ha
  have hts:T.size≤140737488351232:=by omega
  clear hta hrd hT ha
  by_cases hlt:0<T.size
  ·have hby:((T[0].toNat:Nat):Int)≤255:=by have:=T[0].toNat_lt;omega
   have hby0:0≤((T[0].toNat:Nat):Int):=by omega
   have HB:Hid (byt s a=T[0].toNat):=by
    unfold Hid
    rw[byt_get T 0 hlt,HT.out 0 hlt,Nat.add_zero]
   have hti:(1:Int)≤T.size:=by omega
   have halt:a<s.size:=by have:=Ha.out;omega
   by_cases hbad:36<T[0].toNat∨s.size<a+1+5*T[0].toNat∨left=0
   ·have Hn:Hid (turnsF s=none):=by
     unfold Hid
     rw[Hrd.out,readF_bad s fuel a left halt (by rw[HB.out];simpa using hbad)];rfl
    have Hbad:Hid (36<T[0].toNat∨s.size<a+1+5*T[0].toNat∨left=0):=hbad
    clear hbad HB Hrd
    go_wp2
    all_goals first
     | (go_ret2;go_light;refine ⟨?_,hbel⟩;rw[Hn.out];exact rfl)
     | (exfalso;go_light;have hb:=Hbad.out;have hA:=Ha.out;simp at *;omega)
   ·have hn1:((T[0].toNat:Nat):Int)*5≤180:=by omega
    have hn2:((T[0].toNat:Nat):Int)*5≤(T.size:Int)-1:=by have:=Ha.out;omega
    have hn3:((css.length:Int) == 1000)=false:=by simp;omega
    have HN:=(show Hid _ from readF_next s fuel a left halt T[0].toNat (by rw[HB.out];simp) (by omega) (by omega) (by omega))
    have Hl0:Hid (¬ left=0):=by unfold Hid;omega
    have hu8:T[0].toNat≤36:=by omega
    have h5:5*T[0].toNat+1≤T.size:=by have:=Ha.out;omega
    clear hbad HB
    obtain ⟨j0,hj,hy0,hy1,hy2⟩:=info_parts infoComms
    go_wp2_with fail
    have hs1:(T.extract 1 T.size).size=T.size-1:=by rw[ByteArray.size_extract];omega
    have hs2:((T.extract 1 T.size).extract 0 (T[0].toNat*5)).size=5*T[0].toNat:=by rw[ByteArray.size_extract,hs1];omega
    refine (readCommands_any _ T[0].toNat hu8 hs2 _).mono ?_
    rintro e wa ⟨⟨tv,rfl,htv⟩,hba⟩
    have hcm:cmdsAt ((T.extract 1 T.size).extract 0 (T[0].toNat*5)) 0 T[0].toNat=cmdsAt s (a+1) T[0].toNat:=by
     refine cmdsAt_congr _ s (a+1) T[0].toNat (fun i hi=>?_)
     rw[byt_extract _ 0 (T[0].toNat*5) i (by rw[hs1];omega) (by omega),byt_extract T 1 T.size (0+i) (Nat.le_refl _) (by omega),HT.out (1+(0+i)) (by omega)]
     congr 1;omega
    rw[hcm]at htv
    clear hcm
    obtain ⟨ta,tn,tcap,htf⟩:∃ ta tn tcap,tv=.slice ta tn tcap:=by
     rcases htv.row.2 with ⟨h1,h2⟩|⟨g,cap,cur,h1,_⟩
     ·exact ⟨_,_,_,h1⟩
     ·exact ⟨_,_,_,h1⟩
    subst htf
    have Hta2:=Hta.out.below hba
    have Htv:=(show Hid _ from htv)
    have Hba:=(show Hid _ from hba)
    have Hs1:Hid ((T.extract 1 T.size).size=T.size-1):=hs1
    have hsT:(T.extract 1 T.size).size≤140737488351232:=by omega
    have hsN:((T[0].toNat:Nat):Int)*5≤((T.extract 1 T.size).size:Int):=by omega
    clear htv hba hs2 hs1
    go_wp2_with (at_builtin;refine wpList_append_own_at _ rfl _ _ 76 rfl 0 81 j0 _ 1 24 ((Pz.gUnderlying 76).trans Tryz.underlying76) hj hy0 hy1 hy2 rfl (by decide) _ _ _ rfl (RowAt.alloc Hta2.row _) ⟨wa.heap.size,0,none⟩ 1 1 [.slice ta tn tcap] rfl rfl ?c1 ?c2 ?c3 ?c4 ?c5 ?_)
    case c1 =>
     intro j u hj
     match j,hj with
     | 0,hj=>simp at hj;subst hj;simp[Addr.add]
     | j+1,hj=>simp at hj
    case c2=>intro u hu;simp at hu;subst hu;rfl
    case c3=>unfold maxLen;omega
    case c4=>omega
    case c5=>exact Nat.zero_le _
    ·intro v' w2 hown hg hnil hob
     have hfin:=pturns_step Hta.out hbel (Nat.le_refl _) Hba.out Htv.out hown hg hob
     have hread:turnsF s=(readF s fuel (a+1+5*T[0].toNat) (left-1)).map (fun l=>(css++[cmdsAt s (a+1) T[0].toNat])++l):=by
      rw[Hrd.out,HN.out,Option.map_map]
      congr 1
      funext l
      simp
     have Hread:=(show Hid _ from hread)
     have Hfin:=(show Hid _ from hfin)
     clear hfin hread hown hg hnil hob hj hy0 hy1 hy2 Hta2
     go_wp2
     go_light
     have hA:=Ha.out
     have hs1:=Hs1.out
     have hs3:((T.extract 1 T.size).extract (T[0].toNat*5) (T.size-1)).size=T.size-1-5*T[0].toNat:=by rw[ByteArray.size_extract,hs1];omega
     refine ⟨⟨a+1+5*T[0].toNat,left-1,fuel,(T.extract 1 T.size).extract (T[0].toNat*5) (T.size-1),css++[cmdsAt s (a+1) T[0].toNat],tvs++[.slice ta tn tcap],by omega,rfl,fun i hi=>?_,?_,by omega,Hread.out,Hfin.out.1,Hfin.out.2⟩,?_⟩
     ·rw[byt_extract _ (T[0].toNat*5) (T.size-1) i (by omega) (by omega),byt_extract T 1 T.size (T[0].toNat*5+i) (Nat.le_refl _) (by omega),HT.out (1+(T[0].toNat*5+i)) (by omega)]
      congr 1;omega
     ·have:=Hl0.out
      simp;omega
     ·show ((T.extract 1 T.size).extract (T[0].toNat*5) (T.size-1)).size<T.size
      omega
  ·have Hn:Hid (turnsF s=some css):=by
    unfold Hid
    rw[Hrd.out,readF_end s fuel a left (by have:=Ha.out;omega)];simp
   go_wp2
   go_ret2
   refine ⟨?_,hbel⟩
   rw[Hn.out]
   exact ⟨_,tvs,rfl,Hta.out⟩
end Go.Proofs.YtdianedehhecoaaGreatDoor
/- WriteTurn: the bytes of a turn of any commands. -/
namespace Go.Proofs.YtdianedehhecoaaGreatDoor
open Go.RowKit
def cmdN (c:RC):List Int:=[c.p,c.un,c.wh,c.x,c.y].map low
def turnN (cs:List RC):List Int:=[(cs.length:Int)].map low++cs.flatMap cmdN
theorem turnN_take (cs:List RC)(k:Nat)(hk:k<cs.length):[(cs.length:Int)].map low++(cs.take (k+1)).flatMap cmdN=([(cs.length:Int)].map low++(cs.take k).flatMap cmdN)++cmdN (cs.getD k rc0):=by
 rw[List.take_succ_eq_append_getElem hk,List.flatMap_append,List.append_assoc]
 congr 2
 simp[List.getD,hk]
theorem cmdN_len (l:List RC):(l.flatMap cmdN).length=5*l.length:=by
 induction l with
 | nil=>rfl
 | cons x l ih =>
  rw[List.flatMap_cons,List.length_append,ih]
  simp[cmdN]
  omega
theorem one_at2 {w0 wr wa:World}{N n c g:Nat}{l:List Int}(vs:List Int)(hw:Wrote (fun k=>k=N) w0 N l wr)(hl:l.length≤40000)(hn:vs.length=n)(hvl:n≤1000)(hba:Below wr.heap.size wr wa)
  (hg:wr.heap.size≤g)(hlt:g<wa.heap.size)(hc:∀ i,i<vs.length→wa.cell? ⟨g,i,none⟩=some (.int .i64 (vs.getD i 0))) :
  Calls Pz.prog 84 #[.pointer (some ⟨N,0,none⟩),.slice (some ⟨g,0,none⟩) n c] wa fun e w'=>e=.returned (.tuple #[])∧Wrote (fun k=>k=N) w0 N (l++vs.map low) w':=by
 subst hn
 obtain ⟨⟨ov,h1⟩,h2⟩:=hw
 refine (One_any vs (some ⟨g,0,none⟩) c (h1.tight.below hba) (by omega) hvl (fun i hi=>⟨g,0,rfl,hlt,fun e=>by have:=e.2;omega,by rw[Nat.zero_add];exact hc i hi⟩)).mono ?_
 rintro e w2 ⟨rfl,hw2⟩
 exact ⟨rfl,Wrote.then ⟨⟨ov,h1⟩,h2⟩ hba hw2⟩
theorem WTurn_any {w:World}{tv:Value}(cs:List RC)(hcl:cs.length≤100)(htv:tv=.slice none 0 0∧cs=[]∨0<cs.length∧RowAt w 171 5 tv cs.length (rcCells cs)) :
  Calls Pz.prog 126 #[tv] w fun e w'=>e=.returned (.string (strOfNums (turnN cs)))∧Below w.heap.size w w':=by
 obtain ⟨ta,tcap,htv',hTT⟩:∃ ta tcap,tv=.slice ta cs.length tcap∧∀ k,k<cs.length→∃ tg,ta=some ⟨tg,0,none⟩∧tg<w.heap.size ∧
   (w.cell? ⟨tg,k*5,none⟩=some (.int .i64 (cs.getD k rc0).p)∧w.cell? ⟨tg,k*5+1,none⟩=some (.int .i64 (cs.getD k rc0).un) ∧
    w.cell? ⟨tg,k*5+2,none⟩=some (.int .i64 (cs.getD k rc0).wh)∧w.cell? ⟨tg,k*5+3,none⟩=some (.int .i64 (cs.getD k rc0).x)∧w.cell? ⟨tg,k*5+4,none⟩=some (.int .i64 (cs.getD k rc0).y)):=by
  rcases htv with ⟨rfl,rfl⟩|⟨h0,hrow⟩
  ·exact ⟨none,0,rfl,fun k hk=>by simp at hk⟩
  ·obtain ⟨tg,tcap,rfl,hob,hc⟩:=prc_cells hrow h0
   exact ⟨_,tcap,rfl,fun k hk=>⟨tg,rfl,hrow.lt hob,hc k hk⟩⟩
 subst htv'
 have HT:=(show Hid _ from hTT)
 clear htv hTT
 have ha0:Below w.heap.size w (w.alloc (.cells #[.slice none 0 0] 176)):=(Below.refl _ _).alloc (Nat.le_refl _) _
 have hw0:Wrote (fun k=>k=w.heap.size) (w.alloc (.cells #[.slice none 0 0] 176)) w.heap.size [] (w.alloc (.cells #[.slice none 0 0] 176)) :=
  Wrote.mk (ov:=.slice none 0 0) ⟨BlkAt.new w [.slice none 0 0] 176,⟨rfl,.inl ⟨rfl,rfl⟩⟩,rfl,fun k e=>by cases e⟩ (Keep.refl _ _)
 have hsz0:(w.alloc (.cells #[.slice none 0 0] 176)).heap.size=w.heap.size+1:=by simp
 have HO:=(show Hid _ from one_at2 (w0:=w.alloc (.cells #[.slice none 0 0] 176)) (N:=w.heap.size) (n:=1) (c:=1) (g:=w.heap.size+1) [(cs.length:Int)] hw0 (by simp) rfl (by omega) ((Below.refl _ _).alloc (Nat.le_refl _) (.cells #[.int .i64 cs.length] 3)) (by omega) (by simp) (fun i hi=>by rw[← hsz0];exact new_cells _ [(cs.length:Int)] 3 i hi))
 have Ha0:=(show Hid _ from ha0)
 have HTK:Hid (∀ k,k<cs.length→[(cs.length:Int)].map low++(cs.take (k+1)).flatMap cmdN=([(cs.length:Int)].map low++(cs.take k).flatMap cmdN)++[(cs.getD k rc0).p,(cs.getD k rc0).un,(cs.getD k rc0).wh,(cs.getD k rc0).x,(cs.getD k rc0).y].map low):=fun k hk=>turnN_take cs k hk
 clear ha0 hw0 hsz0
 go_enter Pz.func126,Tryz.ntmps126
 go_wp2_with (go_at_call 84;refine Calls.mono HO.out ?_;rintro e w1 ⟨rfl,hw1⟩)
 clear HO
 go_loopw [12] (fun i wr=>∃ k:Nat,k≤cs.length∧i=.int .i64 k∧Wrote (fun k=>k=w.heap.size) (w.alloc (.cells #[.slice none 0 0] 176)) w.heap.size ([(cs.length:Int)].map low++(cs.take k).flatMap cmdN) wr) (fun i _=>cs.length-(intOf i).toNat)
 case atStart=>exact ⟨0,Nat.zero_le _,rfl,by simpa using hw1⟩
 case round =>
  obtain ⟨k,hk,rfl,hwr⟩:=hrel
  by_cases hlt:k<cs.length
  ·have hb:=wroteBelow Ha0.out hwr
   obtain ⟨tg,rfl,htl,e0,e1,e2,e3,e4⟩:=HT.out k hlt
   have c0:=(hb.cell (p:=⟨tg,k*5,none⟩) htl).trans e0
   have c1:=(hb.cell (p:=⟨tg,k*5+1,none⟩) htl).trans e1
   have c2:=(hb.cell (p:=⟨tg,k*5+2,none⟩) htl).trans e2
   have c3:=(hb.cell (p:=⟨tg,k*5+3,none⟩) htl).trans e3
   have c4:=(hb.cell (p:=⟨tg,k*5+4,none⟩) htl).trans e4
   have Hwr:=(show Hid _ from hwr)
   have HK:=HTK.out k hlt
   have hlen:([(cs.length:Int)].map low++(cs.take k).flatMap cmdN).length≤40000:=by
    rw[List.length_append,cmdN_len,List.length_take]
    simp
    omega
   clear hb hwr e0 e1 e2 e3 e4 HTK
   generalize hL2:[(cs.length:Int)].map low++(cs.take (k+1)).flatMap cmdN=L2 at HK
   have HL2:=(show Hid _ from hL2)
   clear hL2
   generalize [(cs.length:Int)].map low++(cs.take k).flatMap cmdN=L1 at *
   generalize cs.getD k rc0=rc at *
   have hsz1:(wr.alloc (.cells #[.int .i64 rc.p,.int .i64 rc.un,.int .i64 rc.wh,.int .i64 rc.x,.int .i64 rc.y] 171)).heap.size=wr.heap.size+1:=by simp
   have HO:=(show Hid _ from one_at2 (n:=5) (c:=5) (g:=wr.heap.size+1) [rc.p,rc.un,rc.wh,rc.x,rc.y] Hwr.out hlen rfl (by omega) (((Below.refl _ _).alloc (Nat.le_refl _) (.cells #[.int .i64 rc.p,.int .i64 rc.un,.int .i64 rc.wh,.int .i64 rc.x,.int .i64 rc.y] 171)).alloc (by simp) (.cells #[.int .i64 rc.p,.int .i64 rc.un,.int .i64 rc.wh,.int .i64 rc.x,.int .i64 rc.y] 3)) (by omega) (by simp) (fun i hi=>by rw[← hsz1];exact new_cells _ [rc.p,rc.un,rc.wh,rc.x,rc.y] 3 i hi))
   rw[← HK]at HO
   clear Hwr HK hsz1
   go_wp2_with (go_at_call 84;refine Calls.mono HO.out ?_;rintro e w2 ⟨rfl,hw2⟩)
   exact ⟨⟨k+1,by omega,by go_num,by rw[HL2.out];exact hw2⟩,by simp[intOf];omega⟩
  ·obtain rfl:k=cs.length:=by omega
   have hb:=wroteBelow Ha0.out hwr
   rw[List.take_of_length_le (Nat.le_refl _)]at hwr
   obtain ⟨⟨ov,hwa⟩,-⟩:=hwr
   have HX:=(show Hid _ from Text_any hwa)
   have Hb:=(show Hid _ from hb)
   clear hwa hb HT HTK
   go_wp2_with (go_at_call 85;refine Calls.mono HX.out ?_;rintro e w' ⟨rfl,rfl⟩)
   go_ret
   exact ⟨rfl,Hb.out⟩
end Go.Proofs.YtdianedehhecoaaGreatDoor