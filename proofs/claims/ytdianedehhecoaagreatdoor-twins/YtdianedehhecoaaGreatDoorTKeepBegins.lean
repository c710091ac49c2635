/- begin, with no other match ahead: what it leaves for Dues. -/
import Derived.Test.YtdianedehhecoaaGreatDoorTPlayWatchs
set_option linter.unusedVariables false
set_option linter.unusedSimpArgs false
set_option maxHeartbeats 8000000
set_option maxRecDepth 100000
namespace Go.Proofs.YtdianedehhecoaaGreatDoor
open Go.RowKit
theorem start_size2 (sd:Int):(bytesF (startTo sd 2)).size=102:=by kernel_rfl
theorem start_size3 (sd:Int):(bytesF (startTo sd 3)).size=118:=by kernel_rfl
theorem start_size4 (sd:Int):(bytesF (startTo sd 4)).size=134:=by kernel_rfl
theorem start_size (sd:Int)(P:Nat)(p2:2≤P)(p4:P≤4):(bytesF (startTo sd P)).size=70+16*P:=by
 have hc:P=2∨P=3∨P=4:=by omega
 rcases hc with h|h|h
 ·rw[h,start_size2]
 ·rw[h,start_size3]
 ·rw[h,start_size4]
theorem viewGuard:Pz.prog.eqGuardType Pz.prog.depth 46=false:=by kernel_rfl
theorem viewEq (a c d e f:Int)(b:Bool)(W:World):(binOp .eql 46 (.agg #[.int .i64 a,.bool b,.int .i64 c,.int .i64 d,.int .i64 e,.int .i64 f]) (.agg #[.int .i64 a,.bool b,.int .i64 c,.int .i64 d,.int .i64 e,.int .i64 f])).run Pz.prog W=.ok (.bool true) W:=by
  have h1:Pz.prog.underlying 46=some (.struct (Pz.prog.fieldsOf 46)):=by kernel_rfl
  have h2:Pz.prog.stoodInHeld 46=false:=by kernel_rfl
  obtain ⟨f1, f2, f3, f4, f5, f6, hf, t1, t2, t3, t4, t5, t6, o1, o2, o3, o4, o5, o6, m1, m2, m3, m4, m5, m6⟩ : ∃ f1 f2 f3 f4 f5 f6, (Pz.prog.fieldsOf 46).toList = [f1, f2, f3, f4, f5, f6] ∧ f1.type = 3 ∧ f2.type = 4 ∧ f3.type = 3 ∧ f4.type = 3 ∧ f5.type = 3 ∧ f6.type = 3 ∧ f1.offset = 0 ∧ f2.offset = 1 ∧ f3.offset = 2 ∧ f4.offset = 3 ∧ f5.offset = 4 ∧ f6.offset = 5 ∧ f1.name ≠ "_" ∧ f2.name ≠ "_" ∧ f3.name ≠ "_" ∧ f4.name ≠ "_" ∧ f5.name ≠ "_" ∧ f6.name ≠ "_" :=
    ⟨(Pz.prog.fieldsOf 46).toList[0]!,(Pz.prog.fieldsOf 46).toList[1]!,(Pz.prog.fieldsOf 46).toList[2]!,(Pz.prog.fieldsOf 46).toList[3]!,(Pz.prog.fieldsOf 46).toList[4]!,(Pz.prog.fieldsOf 46).toList[5]!,by kernel_rfl,by kernel_rfl,by kernel_rfl,by kernel_rfl,by kernel_rfl,by kernel_rfl,by kernel_rfl,by kernel_rfl,by kernel_rfl,by kernel_rfl,by kernel_rfl,by kernel_rfl,by kernel_rfl,by decide +kernel,by decide +kernel,by decide +kernel,by decide +kernel,by decide +kernel,by decide +kernel⟩
  rw[run_eql_struct,run_equalIn_struct W 9999 _ _ _ h1 h2,hf]
  simp[Op.eqFields,m1,m2,m3,m4,m5,m6,t1,t2,t3,t4,t5,t6,o1,o2,o3,o4,o5,o6,go_sem]
section
variable {W w:World} {N hbk rb pb:Nat} {sd:Int} {P n:Nat}
end
section
variable {W w w0:World} {N hbk rb pb:Nat} {sd:Int} {P n:Nat}
end
end Go.Proofs.YtdianedehhecoaaGreatDoor
/- begin, behind whatever others. -/
namespace Go.Proofs.YtdianedehhecoaaGreatDoor
open Go.RowKit
def PB (W:World)(N hbk pb:Nat)(sd:Int)(P B:Nat):Prop:=∃ Q f,PG W (fun k=>N≤k) Q f∧Hist sd P Q []∧Q.pb=pb∧Q.since=[]∧Q.hbk=hbk∧Q.m=B∧∀ i,(Q.tk i).bs=[]
section
variable {W W' w:World} {N hbk pb:Nat} {sd:Int} {P B:Nat}
theorem PB.below (h:PB W N hbk pb sd P B)(hb:Below W.heap.size W W'):PB W' N hbk pb sd P B:=by
 obtain ⟨Q,f,h1,h2⟩:=h
 exact ⟨Q,_,h1.below hb,h2⟩
theorem PB.cells (h:PB W N hbk pb sd P B):W.cell? ⟨pb,1,none⟩=some (.int .i64 B)∧W.cell? ⟨pb,2,none⟩=some (.int .i64 sd)∧W.cell? ⟨pb,3,none⟩=some (.int .i64 P)∧pb<W.heap.size:=by
 obtain ⟨Q,f,h1,h2,h3,h4,h5,h6,h7⟩:=h
 have hp:=h1.play
 rw[h3]at hp
 refine ⟨?_,?_,?_,hp.lt⟩
 ·rw[← h6];exact hp.cell rfl
 ·rw[← h2.seed];exact hp.cell rfl
 ·rw[← h2.size];exact hp.cell rfl
theorem PB.state (h:PB W N hbk pb sd P B)(hB:Below N w W)(hN:N≤W.heap.size):Calls Pz.prog 19 #[.pointer (some ⟨hbk,0,none⟩),.int .i64 B] W fun e w'=>e=.returned (.tuple #[.string (bytesF (startTo sd P)),.int .i64 0])∧PB w' N hbk pb sd P B∧Below N w w':=by
 have h0:=h
 obtain ⟨Q,f,h1,h2,h3,h4,h5,h6,h7⟩:=h
 obtain ⟨g,hM⟩:=h1.mat
 have H:=hstate_gen h1.room hM.cells rfl (hM.stateOf h1.ok.lock)
 rw[h5,h6,h2.state]at H
 exact H.mono fun e w' ⟨he,hb⟩=>⟨he,h0.below hb,hB.trans (hb.mono hN)⟩
theorem PB.hash (h:PB W N hbk pb sd P B)(hB:Below N w W)(hN:N≤W.heap.size):Calls Pz.prog 18 #[.pointer (some ⟨hbk,0,none⟩),.int .i64 B,.int .i64 0] W fun e w'=>e=.returned (.tuple #[.string (hash16 (bytesF (startTo sd P))),.int .i64 0])∧PB w' N hbk pb sd P B∧Below N w w':=by
 have h0:=h
 obtain ⟨Q,f,h1,h2,h3,h4,h5,h6,h7⟩:=h
 obtain ⟨g,hM⟩:=h1.mat
 have H:=hhash_gen h1.room hM.cells rfl (hM.hashOf h1.ok.lock (k:=0) (h2.hash 0 (Nat.le_refl _)) (by rw[h2.hlen];simp))
 rw[h5,h6]at H
 exact H.mono fun e w' ⟨he,hb⟩=>⟨he,h0.below hb,hB.trans (hb.mono hN)⟩
theorem sumTo_zero (f:Nat→Nat)(n:Nat)(h:∀ i,f i=0):sumTo f n=0:=by
 induction n with
 | zero=>rfl
 | succ n ih=>simp[sumTo,ih,h]
theorem PB.look (h:PB W N hbk pb sd P B)(p2:2≤P)(p4:P≤4)(hB:Below N w W)(hN:N≤W.heap.size):Calls Pz.prog 20 #[.pointer (some ⟨hbk,0,none⟩),.int .i64 B] W fun e w'=>e=.returned (.tuple #[.agg #[.int .i64 2,.bool false,.int .i64 P,.int .i64 0,.int .i64 0,.int .i64 (-1)],.int .i64 0])∧PB w' N hbk pb sd P B∧Below N w w':=by
 have h0:=h
 obtain ⟨Q,f,h1,h2,h3,h4,h5,h6,h7⟩:=h
 obtain ⟨g,hM⟩:=h1.mat
 have H:=hlook_at h1.room hM.cells rfl (MG.look (hM.below ((Below.refl _ _).alloc (Nat.le_refl _) _)) h1.ok.lock)
 have hS:Q.M.S=startTo sd P:=h2.state
 have hw:sumTo Q.M.waits Q.M.ps.length=0:=sumTo_zero _ _ fun i=>by
  unfold MSt.waits
  cases hp:Q.M.ps[i]? with
  | none=>rfl
  | some p =>
   have e:=(h2.taken i p hp).1
   rw[h7 i]at e
   have e:p.cs=[]:=by simpa using e.symm
   simp[e]
 have hwin:winP (toPS (startTo sd P)).units=-1:=by
  have hovr:overP (toPS (startTo sd P)).units=overB (startTo sd P):=over_rel (startTo_inv sd P p2 p4)
  unfold winP
  rw[hovr,begun_over sd P p2 p4]
  rfl
 rw[h5,h6,hS,begun_over sd P p2 p4,h2.size,(startTo_ore sd P).2,hwin]at H
 rw[show sumTo Q.M.waits P=0 by rw[← h2.size];exact hw]at H
 exact H.mono fun e w' ⟨he,hb⟩=>⟨he,h0.below hb,hB.trans (hb.mono hN)⟩
def Begun3 (w:World)(sd:Int)(P:Nat)(e:Ending)(w':World):Prop :=
 ∃ pb,e=.returned (.tuple #[.pointer (some ⟨pb,0,none⟩),.bool true])∧w.heap.size≤pb∧Below w.heap.size w w'∧∃ Q,PA w' (fun k=>w.heap.size≤k) pb sd P [] Q∧Q.vw=vw0 sd P
theorem PB.watch (o:Obj)(h:PB W N hbk pb sd P B)(hB:Below N w W)(hN:N≤W.heap.size) :
  Calls Pz.prog 21 #[.pointer (some ⟨pb,0,none⟩)] (W.alloc o) fun e w'=>e=.returned (.bool true)∧(w'.cell? ⟨pb,2,none⟩=some (.int .i64 sd)∧w'.cell? ⟨pb,3,none⟩=some (.int .i64 P))∧pb<w'.heap.size∧w'.heap[W.heap.size]? = some o∧Below N w w'∧∃ Q,PA w' (fun k=>N≤k) pb sd P [] Q∧Q.vw=vw0 sd P:=by
 obtain ⟨Q,f,h1,h2,h3,h4,h5,h6,h7⟩:=h
 have hb:=(Below.refl W.heap.size W).alloc (Nat.le_refl _) o
 have hz:(W.alloc o).heap.size=W.heap.size+1:=by simp
 have h1':=(h1.own (D':=fun k=>N≤k∧k<W.heap.size) fun k hk hl=>⟨hk,hl⟩).below hb
 have hws:Q.M.ws.length=0:=by rw[← h1.ok.since,h4];rfl
 have H:=h1'.watch (by rw[h2.turns];simp)
 rw[h3]at H
 refine H.mono ?_
 rintro e w' ⟨he,hk,(⟨h6',_⟩|⟨_,b,lv,sv,nv,f',hP⟩)⟩
 ·omega
 ·have hlow:∀ k,Nw (fun k=>N≤k∧k<W.heap.size) (W.alloc o).heap.size k→N≤k:=fun k hd=>hd.elim (fun x=>x.1) fun x=>by omega
  have hH:=h2.watch h1.ok.since h1.ok.seen (b:=b) (lv:=lv) (sv:=sv) (nv:=nv)
  have hpl:BlkAt w' pb _ _:=h3▸hP.play
  refine ⟨he,⟨?_,?_⟩,hpl.lt,?_,hB.trans ((hb.mono hN).trans (hk.below (B:=N) (fun j hj=>hj.1) (by omega))),Q.watched b lv sv nv,⟨⟨f',hP.own fun k hd _=>hlow k hd⟩,?_,h3,?_⟩,h2.vw_begun h1.ok.seen h1.ok.since h4 h7 b lv sv nv⟩
  ·have:=hpl.cell (i:=2) rfl
   rw[show (Q.watched b lv sv nv).sd=sd from h2.seed]at this
   exact this
  ·have:=hpl.cell (i:=3) rfl
   rw[show (Q.watched b lv sv nv).M.ps.length=P from h2.size]at this
   exact this
  ·rw[hk.block W.heap.size (by omega) (fun x=>by have:=x.2;omega)]
   exact heap_alloc_new W o
  ·rw[show ([]:List (List RC)).length=Q.turns from h2.turns.symm]at hH
   exact hH
  ·simp[PSt.watched]
end
theorem begin_at (seed players behind:Int)(w:World)(b0:-9223372036854775808≤seed)(b1:seed≤9223372036854775807)(b2:-9223372036854775808≤players)(b3:players≤9223372036854775807)(b4:-9223372036854775808≤behind)(b5:behind≤9223372036854775807)(hC:Corners w)(hD:w.cell? ⟨4,15,none⟩=some (.int .u8 4)) :
  Calls Pz.prog 12 #[.int .i64 seed,.int .i64 players,.int .i64 behind] w (Begun3 w (pickF seed 1000) (2+pickF players 3).toNat):=by
 have r1:=pickF_range seed 1000 (by omega)
 have r2:=pickF_range players 3 (by omega)
 have r3:=pickF_range behind 3 (by omega)
 have hDl:=cell_lt hD
 have HC:Hid (∀ W,Below w.heap.size w W→Corners W∧W.cell? ⟨4,15,none⟩=some (.int .u8 4)):=fun W hW=>⟨Corners.below hC hW,(hW.cell hDl).trans hD⟩
 have HK1:Hid (∀ W,Calls Pz.prog 25 #[.int .i64 seed,.int .i64 1000] W fun e w'=>e=.returned (.int .i64 (pickF seed 1000))∧w'=W):=fun W=>kpick_any seed 1000 W b0 b1 (by omega) (by omega)
 have HK2:Hid (∀ W,Calls Pz.prog 25 #[.int .i64 players,.int .i64 3] W fun e w'=>e=.returned (.int .i64 (pickF players 3))∧w'=W):=fun W=>kpick_any players 3 W b2 b3 (by omega) (by omega)
 have HK0:Hid (∀ W,Calls Pz.prog 25 #[.int .i64 behind,.int .i64 3] W fun e w'=>e=.returned (.int .i64 (pickF behind 3))∧w'=W):=fun W=>kpick_any behind 3 W b4 b5 (by omega) (by omega)
 have HNew:=(show Hid _ from new_any w)
 clear hC hD hDl
 generalize pickF seed 1000=sd at *
 obtain ⟨P,hP⟩:∃ P:Nat,(P:Int)=2+pickF players 3:=⟨(2+pickF players 3).toNat,by omega⟩
 have hPn:(2+pickF players 3).toNat=P:=by omega
 rw[hPn]
 have p2:2≤P:=by omega
 have p4:P≤4:=by omega
 have hq3:pickF players 3=(P:Int)-2:=by omega
 rw[hq3]at HK2
 obtain ⟨B,hB⟩:∃ B:Nat,(B:Int)=pickF behind 3:=⟨(pickF behind 3).toNat,by omega⟩
 rw[← hB]at HK0
 have hB2:B≤2:=by omega
 have hsum:IntKind.i64.wrap (2+((P:Int)-2))=P:=by rw[show (2+((P:Int)-2))=P by omega];simp[IntKind.wrap,IntKind.bits,IntKind.signed];omega
 clear hP hPn hq3 r2 hB r3
 go_enter Pz.func12,Tryz.ntmps12
 go_wp2_with (first|(go_at_call 31;refine Calls.mono HNew.out ?_;rintro e w1 ⟨rfl,hr1,hh1,hz1,hb1⟩)|(go_at_call 25;with_reducible refine Calls.mono (HK1.out _) ?_;rintro e w' ⟨rfl,hw⟩;rw[hw];clear hw w')|(go_at_call 25;with_reducible refine Calls.mono (HK2.out _) ?_;rintro e w' ⟨rfl,hw⟩;rw[hw];clear hw w'))
 have hp2:BlkAt (w1.alloc (.cells #[.pointer (some ⟨w.heap.size+1,0,none⟩),.int .i64 0,.int .i64 sd,.int .i64 P,.slice none 0 0,.slice none 0 0,.slice none 0 0,.slice none 0 0,.slice none 0 0,.slice none 0 0,.int .i64 0,.bool false] 37)) (w.heap.size+2) (playVm (w.heap.size+1) 0 sd P) 37:=by
  have h:=BlkAt.new w1 (playVm (w.heap.size+1) 0 sd P) 37
  rw[hz1]at h
  exact h
 have hh2:=hh1.alloc (.cells #[.pointer (some ⟨w.heap.size+1,0,none⟩),.int .i64 0,.int .i64 sd,.int .i64 P,.slice none 0 0,.slice none 0 0,.slice none 0 0,.slice none 0 0,.slice none 0 0,.slice none 0 0,.int .i64 0,.bool false] 37)
 have hr2:=hr1.alloc (.cells #[.pointer (some ⟨w.heap.size+1,0,none⟩),.int .i64 0,.int .i64 sd,.int .i64 P,.slice none 0 0,.slice none 0 0,.slice none 0 0,.slice none 0 0,.slice none 0 0,.slice none 0 0,.int .i64 0,.bool false] 37)
 have hb2:=hb1.alloc (by omega) (.cells #[.pointer (some ⟨w.heap.size+1,0,none⟩),.int .i64 0,.int .i64 sd,.int .i64 P,.slice none 0 0,.slice none 0 0,.slice none 0 0,.slice none 0 0,.slice none 0 0,.slice none 0 0,.int .i64 0,.bool false] 37)
 generalize (w1.alloc (.cells #[.pointer (some ⟨w.heap.size+1,0,none⟩),.int .i64 0,.int .i64 sd,.int .i64 P,.slice none 0 0,.slice none 0 0,.slice none 0 0,.slice none 0 0,.slice none 0 0,.slice none 0 0,.int .i64 0,.bool false] 37))=w2 at *
 clear hr1 hh1 hb1 hz1 HNew HK1 HK2 hsum
 obtain ⟨hbk,ehb⟩:∃ x,x=w.heap.size+1:=⟨_,rfl⟩
 obtain ⟨rb,erb⟩:∃ x,x=w.heap.size:=⟨_,rfl⟩
 obtain ⟨pb,epb⟩:∃ x,x=w.heap.size+2:=⟨_,rfl⟩
 have HN:Hid (w.heap.size≤hbk∧w.heap.size≤rb∧w.heap.size≤pb∧hbk≠rb∧pb≠hbk∧pb≠rb):=by unfold Hid;omega
 rw[← ehb,← epb]at hp2
 rw[← ehb]at hh2
 rw[← ehb,← epb]
 have HH0:Hid (HO w2 hbk rb pb sd P [] 0):=⟨by rw[erb];exact hh2,by rw[erb];exact hr2,hp2⟩
 have HB2:=(show Hid _ from hb2)
 clear hh2 hr2 hp2 hb2 ehb erb epb
 go_loopw [11] (fun kv wr=>∃ k:Nat,k≤B+1∧kv=.int .i64 k∧Below w.heap.size w wr∧((∃ ms m,ms.length=k∧HO wr hbk rb pb sd P ms m)∧(k=0∨∃ ms,ms.length+1=k∧BAtK wr hbk rb pb sd P ms ms.length P))) (fun kv _=>B+1-(intOf kv).toNat)
 case atStart=>exact ⟨0,by omega,rfl,HB2.out,⟨[],0,rfl,HH0.out⟩,.inl rfl⟩
 case round =>
  obtain ⟨k,hk,rfl,hBB,⟨ms,m,hms,hHO⟩,hlast⟩:=hrel
  by_cases hlt:k≤B
  ·have hki:(k:Int)≤B:=by omega
   have c2:wr.drew.cell? ⟨pb,2,none⟩=some (.int .i64 sd):=hHO.2.2.cell rfl
   have c3:wr.drew.cell? ⟨pb,3,none⟩=some (.int .i64 P):=hHO.2.2.cell rfl
   have d2:wr.cell? ⟨pb,2,none⟩=some (.int .i64 sd):=hHO.2.2.cell rfl
   have d3:wr.cell? ⟨pb,3,none⟩=some (.int .i64 P):=hHO.2.2.cell rfl
   have hcr:=createK (W:=wr.drew) (N:=w.heap.size) (w0:=w) ⟨hHO.1,hHO.2.1,hHO.2.2⟩ (by omega) HN.out.2.2.2.1 HN.out.2.2.2.2.1 HN.out.2.2.2.2.2 p2 p4 r1.1 (by omega) hBB.drew HC.out HN.out.1 HN.out.2.1
   rw[hms]at hcr
   have HCr:=(show Hid _ from hcr)
   have HMS:Hid (ms.length=k):=hms
   clear hHO hBB hlast hcr HH0 HB2 hms
   go_wp2_with (go_at_call 25;refine Calls.mono (HK0.out _) ?_;rintro e w' ⟨rfl,hw⟩;rw[hw];clear hw w')
   go_region_held3 (fun w'=>w'.cell? ⟨pb,2,none⟩=some (.int .i64 sd)∧w'.cell? ⟨pb,3,none⟩=some (.int .i64 P)) (first|(with_reducible assumption)|(refine ⟨?_,?_⟩<;>(with_reducible assumption))|go_keep) (first|(go_at_call 32;refine Calls.mono HCr.out ?_;rintro e w3 ⟨rfl,hqs,hq⟩))
   obtain ⟨hBA,hB3⟩:=hq.out
   have hpl:=hBA.play
   have c1:w3.cell? ⟨pb,1,none⟩=some (.int .i64 m):=hpl.cell rfl
   have f1:w3.frozen? ⟨pb,1,none⟩=false:=hpl.free 1
   have HBA4:Hid (BAtK (w3.setCell ⟨pb,1,none⟩ (.int .i64 k)) hbk rb pb sd P ms k 0):=hBA.setM HN.out.2.2.2.2.1 HN.out.2.2.2.2.2 k
   have HBB4:Hid (Below w.heap.size w (w3.setCell ⟨pb,1,none⟩ (.int .i64 k))):=hB3.setCell (p:=⟨pb,1,none⟩) HN.out.2.2.1 _
   clear hBA hB3 hpl hqs hq HCr
   go_wp2_with fail
   go_loopw [14] (fun iv wq=>∃ i:Nat,i≤P∧iv=.int .i64 i∧BAtK wq hbk rb pb sd P ms k i∧Below w.heap.size w wq) (fun iv _=>P-(intOf iv).toNat)
   case atStart=>exact ⟨0,by omega,rfl,HBA4.out,HBB4.out⟩
   case round =>
    obtain ⟨i,hi,rfl,hBA,hBB⟩:=hrel
    have x3:=hBA.play.cell (i:=3) rfl
    have HQA:=(show Hid (BAtK _ hbk rb pb sd P ms k i) from hBA)
    have HQB:=(show Hid _ from hBB)
    clear hBA hBB
    by_cases hlt2:i<P
    ·have HNm:Hid (∀ W,Calls Pz.prog 27 #[.int .i64 i] W fun e w'=>e=.returned (.string ⟨#[(97+i).toUInt8]⟩)∧w'=W):=fun W=>kname_any i W (by omega)
     have hj:=joinK (N:=w.heap.size) (w:=w) HQA.out (by rw[HMS.out];omega) p4 hlt2 HN.out.1 HQB.out
     rw[HMS.out]at hj
     have HJ:=(show Hid _ from hj)
     clear hj
     generalize (⟨#[(97+i).toUInt8]⟩:ByteArray)=nm at *
     go_wp2_with (first|(go_at_call 27;refine Calls.mono (HNm.out _) ?_;rintro e w' ⟨rfl,hw⟩;rw[hw];clear hw w')|(go_at_call 33;refine Calls.mono HJ.out ?_;rintro e w5 ⟨rfl,hA5,hB5⟩))
     exact ⟨⟨i+1,by omega,by go_num,hA5,hB5⟩,by simp[intOf];omega⟩
    ·obtain rfl:i=P:=by omega
     go_wp2_with fail
     obtain ⟨mb,hho⟩:=BAtK.ho HQA.out
     refine ⟨⟨k+1,by omega,by go_num,HQB.out,⟨ms++[mb],k,by rw[List.length_append,HMS.out];rfl,hho⟩,.inr ⟨ms,by rw[HMS.out],by rw[HMS.out];exact HQA.out⟩⟩,by simp[intOf];omega⟩
  ·have hkB:k=B+1:=by omega
   subst hkB
   obtain ⟨ms2,hm2,hBA⟩:∃ ms,ms.length+1=B+1∧BAtK wr hbk rb pb sd P ms ms.length P:=hlast.elim (fun e=>by omega) id
   have hm3:ms2.length=B:=by omega
   have hPB:PB wr w.heap.size hbk pb sd P B:=by
    have:=BAtK.begun (N:=w.heap.size) hBA (by omega) p2 p4 HN.out.2.2.2.1 HN.out.2.2.2.2.1 HN.out.2.2.2.2.2 HN.out.1 HN.out.2.1 HN.out.2.2.1
    rw[hm3]at this
    exact this
   have HQA:=(show Hid _ from hPB)
   have HQB:=(show Hid _ from hBB)
   have hwz:=hBB.size
   obtain ⟨x1,x2,x3,-⟩:=hPB.cells
   have HFo:Hid (∀ W,PB W w.heap.size hbk pb sd P B→Below w.heap.size w W→Calls Pz.prog 17 #[.int .i64 sd,.int .i64 P,.string ⟨#[]⟩] W fun e w'=>e=.returned (.tuple #[.string (bytesF (startTo sd P)),.string (hash16 (bytesF (startTo sd P))),.int .i64 0])∧(w'.cell? ⟨pb,2,none⟩=some (.int .i64 sd)∧w'.cell? ⟨pb,3,none⟩=some (.int .i64 P))∧Hid (PB w' w.heap.size hbk pb sd P B∧Below w.heap.size w w')):=fun W hA hB=>by
    have hc:=HC.out W hB
    refine (PFold_any sd P ⟨#[]⟩ W (by show 0≤_;omega) hc.1 hc.2).mono fun e w' ⟨he,hb⟩=>?_
    rw[fold_ok (mayB_of sd P r1.1 (by omega) p2 p4) (show turnsF ⟨#[]⟩=some [] from rfl) (show playF (startTo sd P) []=some (startTo sd P) from rfl)]at he
    have hA':=hA.below hb
    exact ⟨he,⟨hA'.cells.2.1,hA'.cells.2.2.1⟩,hA',hB.trans (hb.mono hB.size)⟩
   have hsz:=start_size sd P p2 p4
   have hhz:=hash16_size (bytesF (startTo sd P))
   have HSt:Hid (∀ W,PB W w.heap.size hbk pb sd P B→Below w.heap.size w W→_):=fun W hA hB=>PB.state (N:=w.heap.size) (w:=w) hA hB hB.size
   have HHs:Hid (∀ W,PB W w.heap.size hbk pb sd P B→Below w.heap.size w W→_):=fun W hA hB=>PB.hash (N:=w.heap.size) (w:=w) hA hB hB.size
   clear hPB hBB hHO hlast hBA HH0 HB2
   generalize bytesF (startTo sd P)=bt at *
   generalize hash16 bt=ht at *
   have hgt:¬ ((B+1:Nat):Int)≤B:=by omega
   go_wp2_with (go_at_call 25;refine Calls.mono (HK0.out _) ?_;rintro e w' ⟨rfl,hw⟩;rw[hw];clear hw w')
   have e2:wr.drew.cell? ⟨pb,2,none⟩=some (.int .i64 sd):=x2
   have e3:wr.drew.cell? ⟨pb,3,none⟩=some (.int .i64 P):=x3
   have HQD:Hid (PB wr.drew w.heap.size hbk pb sd P B):=PB.below (show PB wr w.heap.size hbk pb sd P B from HQA.out) (Below.refl _ _).drew
   go_region_held3 (fun w'=>w'.cell? ⟨pb,2,none⟩=some (.int .i64 sd)∧w'.cell? ⟨pb,3,none⟩=some (.int .i64 P)) (first|(with_reducible assumption)|(refine ⟨?_,?_⟩<;>first|(with_reducible assumption)|exact x2|exact x3)|go_keep) (first|(go_at_call 17;refine Calls.mono (HFo.out _ HQD.out HQB.out.drew) ?_;rintro e w6 ⟨rfl,hqs,hq⟩))
   obtain ⟨hA6,hB6⟩:=hq.out
   have k6:=hA6.cells.1
   clear hq hqs
   go_wp2_with (first
    | (go_at_call 19;refine Calls.mono (HSt.out _ hA6 hB6) ?_;rintro e w7 ⟨rfl,hA7,hB7⟩;have k7:=hA7.cells.1)
    | (go_at_call 18;refine Calls.mono (HHs.out _ hA7 hB7) ?_;rintro e w8 ⟨rfl,hA8,hB8⟩;have k8:=hA8.cells.1)
    | (go_at_call 20;refine Calls.mono (PB.look (N:=w.heap.size) (w:=w) hA8 p2 p4 hB8 hB8.size) ?_;rintro e w9 ⟨rfl,hA9,hB9⟩))
   refine Calls.mono (PB.watch (N:=w.heap.size) (w:=w) _ hA9 hB9 hB9.size) ?_
   rintro e w10 ⟨rfl,⟨y2,y3⟩,hpz,hvw,hB10,hPO⟩
   have HPO:=(show Hid _ from hPO)
   clear hPO
   have hv10:BlkAt w10 w9.heap.size (viewK P) 46:=hvw
   have hve:=viewEq 2 P 0 0 (-1) false
   have hvg:=viewGuard
   have HB10:=(show Hid _ from hB10)
   have q0:=hv10.cell (i:=0) rfl
   have q1:=hv10.cell (i:=1) rfl
   have q2:=hv10.cell (i:=2) rfl
   have q3:=hv10.cell (i:=3) rfl
   have q4:=hv10.cell (i:=4) rfl
   have q5:=hv10.cell (i:=5) rfl
   have hvl:=hv10.lt
   clear hA6 hB6 hA7 hB7 hA8 hB8 hA9 hB9 k6 k7 k8 hvw hv10 hB10 HFo HSt HHs HQA HQB HQD
   generalize w9.heap.size=vb at *
   have z1:((ht.size:Nat):Int)=16:=by omega
   have z2:((bt.size:Nat):Int)=70+16*(P:Int):=by omega
   have z3:IntKind.i64.wrap (16*(P:Int))=16*(P:Int):=by simp[IntKind.wrap,IntKind.bits,IntKind.signed];omega
   have z4:IntKind.i64.wrap (70+16*(P:Int))=70+16*(P:Int):=by simp[IntKind.wrap,IntKind.bits,IntKind.signed];omega
   clear hsz hhz
   go_wp2_with fail
   go_quiet (fail)
   go_wp2_with fail
   go_quiet (fail)
   go_wp2
   go_ret2
   obtain ⟨Q,hPA,hV⟩:=HPO.out
   exact ⟨pb,rfl,HN.out.2.2.1,⟨HB10.out.os,HB10.out.tape,HB10.out.output,HB10.out.size,HB10.out.block⟩,Q,⟨hPA.1.elim fun f x=>⟨_,x.on fun k _ _=>rfl⟩,hPA.2⟩,hV⟩
end Go.Proofs.YtdianedehhecoaaGreatDoor