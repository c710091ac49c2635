/- A command out of a raw number. -/
import Derived.Test.YtdianedehhecoaaGreatDoorTPlayGens
set_option linter.unusedVariables false
set_option linter.unusedSimpArgs false
set_option maxHeartbeats 4000000
set_option maxRecDepth 20000
namespace Go.Proofs.YtdianedehhecoaaGreatDoor
open Go.RowKit
theorem kconv5 (w:World)(a b c d e:Int) :
  (convert 55 9 (.slice (some ⟨w.heap.size,0,none⟩) 5 5)).run Pz.prog (w.alloc (.cells #[.int .u8 a,.int .u8 b,.int .u8 c,.int .u8 d,.int .u8 e] 5))=.ok (.string (strOfNums [a,b,c,d,e])) (w.alloc (.cells #[.int .u8 a,.int .u8 b,.int .u8 c,.int .u8 d,.int .u8 e] 5)):=by
 have h:=run_convert_bytes_arg (P:=Pz.prog) (w.alloc (.cells #[.int .u8 a,.int .u8 b,.int .u8 c,.int .u8 d,.int .u8 e] 5)) 55 5 ((Pz.gUnderlying 55).trans Tryz.underlying55) ((Pz.gUnderlying 5).trans Tryz.underlying5) w.heap.size 0 5 5 [a,b,c,d,e] rfl (fun i hi=>by
  have:i=0∨i=1∨i=2∨i=3∨i=4:=by omega
  rcases this with rfl|rfl|rfl|rfl|rfl<;>simp[go_sem]) 9 ((Pz.gUnderlying 9).trans Tryz.underlying9)
 exact h
theorem kbytesB (p c:Int)(w:World)(p0:0≤p)(p1:p≤3)(h0:-9223372036854775808≤c)(h1:c≤9223372036854775807) :
  Calls Pz.prog 24 #[.int .i64 p,.int .i64 c] w fun e w'=>e=.returned (.string (bytesK p c))∧Below w.heap.size w w':=by
 have HP:=(show Hid _ from kpick_any c 1099511627776 w h0 h1 (by omega) (by omega))
 obtain ⟨n0,n1⟩:=pickF_range c 1099511627776 (by omega)
 have HB:Hid (bytesK p c=strOfNums [p,1+pickF c 1099511627776 % 10,1+pickF c 1099511627776 / 10 % 5,pickF c 1099511627776 / 50 % 8,pickF c 1099511627776 / 400 % 8]):=rfl
 generalize pickF c 1099511627776=n at *
 have kc:=kconv5
 have t1:Int.tmod n 10=n % 10:=Int.tmod_eq_emod_of_nonneg n0
 have t2:Int.tdiv n 10=n / 10:=Int.tdiv_eq_ediv_of_nonneg n0
 have t3:Int.tmod (n / 10) 5=n / 10 % 5:=Int.tmod_eq_emod_of_nonneg (by omega)
 have t4:Int.tdiv n 50=n / 50:=Int.tdiv_eq_ediv_of_nonneg n0
 have t5:Int.tmod (n / 50) 8=n / 50 % 8:=Int.tmod_eq_emod_of_nonneg (by omega)
 have t6:Int.tdiv n 400=n / 400:=Int.tdiv_eq_ediv_of_nonneg n0
 have t7:Int.tmod (n / 400) 8=n / 400 % 8:=Int.tmod_eq_emod_of_nonneg (by omega)
 clear h0 h1
 go_enter Pz.func24,Tryz.ntmps24
 go_wp2_with (go_at_call 25;refine Calls.mono HP.out ?_;rintro e w' ⟨rfl,hx'⟩;rw[hx'];clear hx' w')
 go_ret
 exact ⟨by rw[HB.out];rfl,(Below.refl _ _).alloc (Nat.le_refl _) _⟩
theorem tdiv4_range (c:Int)(h0:-9223372036854775808≤c)(h1:c≤9223372036854775807):-9223372036854775808≤Int.tdiv c 4∧Int.tdiv c 4≤9223372036854775807:=by
 by_cases h:0≤c
 ·rw[Int.tdiv_eq_ediv_of_nonneg h]
  omega
 ·have e:Int.tdiv c 4=-(Int.tdiv (-c) 4):=by rw[Int.neg_tdiv];omega
  rw[e,Int.tdiv_eq_ediv_of_nonneg (by omega)]
  omega
theorem tdiv7_range (c:Int)(h0:-9223372036854775808≤c)(h1:c≤9223372036854775807):-9223372036854775808≤Int.tdiv c 7∧Int.tdiv c 7≤9223372036854775807:=by
 by_cases h:0≤c
 ·rw[Int.tdiv_eq_ediv_of_nonneg h]
  omega
 ·have e:Int.tdiv c 7=-(Int.tdiv (-c) 7):=by rw[Int.neg_tdiv];omega
  rw[e,Int.tdiv_eq_ediv_of_nonneg (by omega)]
  omega
theorem bytesK_first (p c:Int)(h0:0≤p)(h1:p≤255):byt (bytesK p c) 0=p:=by
 unfold bytesK byt
 rw[strOfNums_data]
 simp only[List.map_cons,List.getD,List.getElem?_cons_zero,Option.getD_some]
 rw[UInt8.toNat_ofNat']
 omega
end Go.Proofs.YtdianedehhecoaaGreatDoor
/- A play submits a command. -/
namespace Go.Proofs.YtdianedehhecoaaGreatDoor
open Go.RowKit
theorem row_slice {w:World}{e size:Nat}{v:Value}{n:Nat}{xs:List Value}(h:RowAt w e size v n xs):∃ a cap,v=.slice a n cap:=by
 by_cases hn:0<n
 ·obtain ⟨g,cap,e,-⟩:=h.form hn
  exact ⟨_,cap,e⟩
 ·obtain rfl:n=0:=by omega
  rcases h.2 with ⟨e,_⟩|⟨g,cap,cur,e,_⟩
  ·exact ⟨none,0,e⟩
  ·exact ⟨_,cap,e⟩
section
variable {w w':World} {D:Nat→Prop} {Q:PSt} {f:PIx→Nat→Prop} {sd:Int} {P:Nat} {T:List (List RC)}
def PSt.takes (Q:PSt)(i:Nat)(t:Tk):PSt:={ Q with tk:=fun j=>if j=i then t else Q.tk j }
theorem PSt.takes_cells (Q:PSt)(i:Nat)(t:Tk)(hi:i<4):(Q.takes i t).cells=Q.cells.set (4+i) t.v:=by
 have hc:i=0∨i=1∨i=2∨i=3:=by omega
 rcases hc with rfl|rfl|rfl|rfl<;>rfl
theorem PSt.tk_cell (Q:PSt)(i:Nat)(hi:i<4):Q.cells[4+i]? = some (Q.tk i).v:=by
 have hc:i=0∨i=1∨i=2∨i=3:=by omega
 rcases hc with rfl|rfl|rfl|rfl<;>rfl
theorem PG.takes (h:PG w D Q f){i:Nat}(hi:i<4){o:Obj}{w4:World}{v':Value}{s:ByteArray}(hg:(w.alloc o).grownBy w4 (Q.tk i).v.ownBlock)(hr:RowAt w4 9 1 v' ((Q.tk i).bs.length+1) ((Q.tk i).bs.map .string++[.string s]))
  (hob:v'.ownBlock=(Q.tk i).v.ownBlock∨v'.ownBlock=some (w.alloc o).heap.size) :
  ∃ f',PG (w4.setCell ⟨Q.pb,4+i,none⟩ v') (Nw D w.heap.size) (Q.takes i ⟨v',(Q.tk i).bs++[s]⟩) f'∧Keep D w (w4.setCell ⟨Q.pb,4+i,none⟩ v'):=by
 have hz2:(w.alloc o).heap.size=w.heap.size+1:=by simp
 have hz3:=hg.size
 have hpl:=h.play.lt
 have hnp:(Q.tk i).v.ownBlock≠some Q.pb:=fun e=>h.ne (h.ftk e) h.fpl (by simp) rfl
 have old:∀ j:Nat,j<w.heap.size→(Q.tk i).v.ownBlock≠some j→w4.heap[j]? = w.heap[j]?:=fun j hj h1=>by
  rw[hg.block j (by omega) (fun e=>h1 e.symm),Below.heap_alloc _ _ _ (by omega)]
 have hown:∀ k,v'.ownBlock=some k→(Q.tk i).v.ownBlock=some k∨w.heap.size≤k:=fun k e=>by
  rcases hob with x|x
  ·exact .inl (x▸e)
  ·rw[x]at e;have e:=Option.some.inj e;exact .inr (by omega)
 have hnp':v'.ownBlock≠some Q.pb:=fun e=>by
  rcases hown _ e with x|x
  ·exact hnp x
  ·omega
 have hkk:Keep (fun j=>j=Q.pb∨(Q.tk i).v.ownBlock=some j) w (w4.setCell ⟨Q.pb,4+i,none⟩ v'):=⟨hg.os,hg.tape,hg.output,by rw[World.heap_setCell_size];omega,fun j hj hn=>by
  rw[Below.heap_setCell _ ⟨Q.pb,4+i,none⟩ _ j (fun e=>hn (.inl e))]
  exact old j hj fun e=>hn (.inr e)⟩
 refine h.change (Q':=Q.takes i ⟨v',(Q.tk i).bs++[s]⟩) (T:=fun x=>x=.pl∨x=.tk i) (f':=fun x k=>(x=.pl∧k=Q.pb)∨(x=.tk i∧v'.ownBlock=some k)) (hkk.mono fun k hk=>.inl ?_) ?_ ?_ ?_ ?_ ⟨h.ok.lock,h.ok.last,h.ok.rooms,h.ok.seen,h.ok.since,h.ok.six⟩
 ·rcases hk with rfl|hk
  ·exact ⟨.pl,.inl rfl,h.fpl⟩
  ·exact ⟨.tk i,.inr rfl,h.ftk hk⟩
 ·rintro a c k _ _ (⟨rfl,ha⟩|⟨rfl,ha⟩) (⟨rfl,hb⟩|⟨rfl,hb⟩)
  ·rfl
  ·subst ha;exact absurd hb hnp'
  ·subst hb;exact absurd ha hnp'
  ·rfl
 ·rintro x k _ (⟨rfl,rfl⟩|⟨rfl,hw⟩)
  ·exact .inl ⟨.pl,.inl rfl,h.fpl⟩
  ·rcases hown k hw with x|x
   ·exact .inl ⟨.tk i,.inr rfl,h.ftk x⟩
   ·exact .inr x
 ·rintro x (rfl|rfl)
  ·refine ⟨.inl ⟨rfl,rfl⟩,?_⟩
   rw[Q.takes_cells i _ hi]
   exact (h.play.same (old _ hpl hnp)).set (4+i) v'
  ·simp only[PSt.A,PSt.takes,if_true]
   refine ⟨?_,fun k e=>.inr ⟨by trivial,e⟩⟩
   have:=hr.other (c:=Q.pb) (i:=4+i) (u:=v') hnp'
   simpa using this
 ·intro x hx
  cases x with
  | tk j=>simp only[PSt.A,PSt.takes];rw[if_neg (fun e=>hx (.inr (by rw[e])))]
  | pl=>exact absurd (.inl rfl) hx
  | _=>rfl
def SubPost (w:World)(D:Nat→Prop)(Q:PSt)(i:Nat)(p:Pl)(s:ByteArray)(x:Int)(w':World):Prop :=
 Keep D w w'∧((x=4∧overB Q.M.S=true∧∃ f',PG w' (Nw D w.heap.size) Q f')∨(x=7∧overB Q.M.S=false∧p.cs.length=8∧∃ f',PG w' (Nw D w.heap.size) Q f') ∨
  (x=0∧overB Q.M.S=false∧p.cs.length<8∧∃ wv' f',PG w' (Nw D w.heap.size) { Q with M:=Q.M.plays i ⟨p.b,p.tk+1,wv',p.cs++[cmdAt s 0]⟩ } f'))
theorem PG.submitH (h:PG w D Q f){i:Nat}{p:Pl}(hp:Q.M.ps[i]? = some p)(t1:p.tk≤1000000000)(s:ByteArray)(h5:s.size=5)(hb0:byt s 0=i) :
  Calls Pz.prog 58 #[.pointer (some ⟨Q.hbk,0,none⟩),.int .i64 Q.m,.string ⟨#[(97+i).toUInt8]⟩,.int .i64 (p.tk+1),.string s] w fun e w'=>∃ x,e=.returned (.int .i64 x)∧SubPost w D Q i p s x w':=by
 obtain ⟨g,hM⟩:=h.mat
 refine hsubmit_gen h.room hM.cells rfl ((hM.submit h.ok.lock hp t1 s h5 hb0).mono ?_)
 rintro e w' (⟨h1,he,hb⟩|⟨h1,h2,he,hb⟩|⟨h1,h2,he,wv',g',hM',hk⟩)
 ·exact ⟨4,he,(Keep.ofBelow hb).mono fun j hj=>.inr hj,.inl ⟨rfl,h1,_,(h.below hb).own fun k hd _=>.inl hd⟩⟩
 ·exact ⟨7,he,(Keep.ofBelow hb).mono fun j hj=>.inr hj,.inr (.inl ⟨rfl,h1,h2,_,(h.below hb).own fun k hd _=>.inl hd⟩)⟩
 ·obtain ⟨f',h',hk'⟩:=h.goes hM' hk (MSt.plays_len _ _ _) rfl rfl h.ok.lock
  exact ⟨0,he,hk',.inr (.inr ⟨rfl,h1,h2,wv',f',h'⟩)⟩
def SubSaid (w:World)(D:Nat→Prop)(Q:PSt)(i:Nat)(p:Pl)(s:ByteArray)(e:Ending)(w':World):Prop :=
 e=.returned (.bool true)∧Keep D w w'∧(((overB Q.M.S=true∨p.cs.length=8)∧∃ f',PG w' (Nw D w.heap.size) Q f') ∨
  (overB Q.M.S=false∧p.cs.length<8∧∃ wv' v' f',PG w' (Nw D w.heap.size) (PSt.takes { Q with M:=Q.M.plays i ⟨p.b,p.tk+1,wv',p.cs++[cmdAt s 0]⟩ } i ⟨v',(Q.tk i).bs++[s]⟩) f'))
theorem PG.submit (h:PG w D Q f)(hH:Hist sd P Q T)(p1:1≤P)(c:Int)(c0:-9223372036854775808≤c)(c1:c≤9223372036854775807){i:Nat}(hi:(i:Int)=pickF c P){p:Pl}(hp:Q.M.ps[i]? = some p) :
  Calls Pz.prog 48 #[.pointer (some ⟨Q.pb,0,none⟩),.int .i64 c] w (SubSaid w D Q i p (bytesK i (Int.tdiv c 4))):=by
 obtain ⟨g,hM⟩:=h.mat
 have hi4:i<4:=by
  have:=(List.getElem?_eq_some_iff.1 hp).1
  have:=hM.ok.few
  omega
 have htk:=hH.tk_le hM.ok hp
 have hlen:=(hH.taken i p hp).2.2.1
 have hps:=hH.size
 have hP4:P≤4:=by have:=hM.ok.few;omega
 have q0:w.cell? ⟨Q.pb,0,none⟩=some (.pointer (some ⟨Q.hbk,0,none⟩)):=h.play.cell rfl
 have q1:w.cell? ⟨Q.pb,1,none⟩=some (.int .i64 Q.m):=h.play.cell rfl
 have q3:w.cell? ⟨Q.pb,3,none⟩=some (.int .i64 P):=by rw[← hps];exact h.play.cell rfl
 have qt:w.cell? ⟨Q.pb,4+i,none⟩=some (Q.tk i).v:=h.play.cell (Q.tk_cell i hi4)
 have hpl:=h.play.lt
 have HPk:Hid (∀ W,Calls Pz.prog 25 #[.int .i64 c,.int .i64 P] W fun e w'=>e=.returned (.int .i64 i)∧w'=W):=fun W=>by
  have:=kpick_any c P W c0 c1 (by omega) (by omega)
  rw[← hi]at this
  exact this
 have htd:-9223372036854775808≤Int.tdiv c 4∧Int.tdiv c 4≤9223372036854775807:=tdiv4_range c c0 c1
 have HBy:Hid (Calls Pz.prog 24 #[.int .i64 i,.int .i64 (Int.tdiv c 4)] w fun e w'=>e=.returned (.string (bytesK i (Int.tdiv c 4)))∧(w'.cell? ⟨Q.pb,0,none⟩=some (.pointer (some ⟨Q.hbk,0,none⟩))∧w'.cell? ⟨Q.pb,1,none⟩=some (.int .i64 Q.m)∧w'.cell? ⟨Q.pb,4+i,none⟩=some (Q.tk i).v∧Q.pb<w'.heap.size)∧Hid (Below w.heap.size w w')):=(kbytesB i (Int.tdiv c 4) w (by omega) (by omega) htd.1 htd.2).mono fun e w' ⟨he,hb⟩=>⟨he,⟨(hb.cell hpl).trans q0,(hb.cell hpl).trans q1,(hb.cell hpl).trans qt,by have:=hb.size;omega⟩,hb⟩
 have HNm:Hid (∀ W,Calls Pz.prog 27 #[.int .i64 i] W fun e w'=>e=.returned (.string ⟨#[(97+i).toUInt8]⟩)∧w'=W):=fun W=>kname_any i W hi4
 have hb5:(bytesK i (Int.tdiv c 4)).size=5:=rfl
 have hb0:byt (bytesK i (Int.tdiv c 4)) 0=i:=bytesK_first _ _ (by omega) (by omega)
 have hov:=hH.over
 obtain ⟨ta,tcap,etv⟩:=row_slice (h.row i)
 generalize hn:(Q.tk i).bs.length=n at *
 have hptk:p.tk=n:=by omega
 have HSb:Hid (∀ W,Hid (Below w.heap.size w W)→Calls Pz.prog 58 #[.pointer (some ⟨Q.hbk,0,none⟩),.int .i64 Q.m,.string ⟨#[(97+i).toUInt8]⟩,.int .i64 ((n:Int)+1),.string (bytesK i (Int.tdiv c 4))] W fun e w'=>∃ x,e=.returned (.int .i64 x)∧(w'.cell? ⟨Q.pb,0,none⟩=some (.pointer (some ⟨Q.hbk,0,none⟩))∧w'.cell? ⟨Q.pb,1,none⟩=some (.int .i64 Q.m)∧w'.cell? ⟨Q.pb,4+i,none⟩=some (Q.tk i).v)∧Hid (SubPost w D Q i p (bytesK i (Int.tdiv c 4)) x w')):=fun W hW=>by
  have H:=(h.below hW.out).submitH hp (by omega) (bytesK i (Int.tdiv c 4)) hb5 hb0
  rw[hptk]at H
  have hz:=hW.out.size
  have up:∀ k,Nw D W.heap.size k→Nw D w.heap.size k:=fun k hk=>hk.imp id fun x=>by omega
  refine H.mono fun e w' ⟨x,he,hk,hr⟩=>?_
  have hkk:Keep D w w':=((Keep.ofBelow hW.out).mono (O':=D) (fun j hj=>.inr hj)).trans hk fun j hj=>.inl hj
  have hcl:∀ {Q2:PSt} {D2:Nat→Prop} {f2:PIx→Nat→Prop},PG w' D2 Q2 f2→Q2.cells=Q.cells→Q2.pb=Q.pb→(w'.cell? ⟨Q.pb,0,none⟩=some (.pointer (some ⟨Q.hbk,0,none⟩))∧w'.cell? ⟨Q.pb,1,none⟩=some (.int .i64 Q.m)∧w'.cell? ⟨Q.pb,4+i,none⟩=some (Q.tk i).v):=fun hP e1 e2=>by
   have hb:=hP.play
   rw[e1,e2]at hb
   exact ⟨hb.cell rfl,hb.cell rfl,hb.cell (Q.tk_cell i hi4)⟩
  rcases hr with ⟨a1,a2,f',a3⟩|⟨a1,a2,a3,f',a4⟩|⟨a1,a2,a3,wv',f',a4⟩
  ·exact ⟨x,he,hcl a3 rfl rfl,hkk,.inl ⟨a1,a2,f',a3.own fun k hk _=>up k hk⟩⟩
  ·exact ⟨x,he,hcl a4 rfl rfl,hkk,.inr (.inl ⟨a1,a2,a3,f',a4.own fun k hk _=>up k hk⟩)⟩
  ·refine ⟨x,he,hcl a4 ?_ rfl,hkk,.inr (.inr ⟨a1,a2,a3,wv',f',a4.own fun k hk _=>up k hk⟩)⟩
   unfold PSt.cells
   rw[MSt.plays_len]
   rfl
 rw[etv]at qt HBy HSb
 have HQT:Hid ((Q.tk i).v=.slice ta n tcap):=etv
 have HNN:Hid ((Q.tk i).bs.length=n):=hn
 obtain ⟨ui,hui⟩:∃ i,Pz.prog.info? 9=some i:=⟨_,rfl⟩
 have iz:ui.zero=some (.string ⟨#[]⟩):=by
  have:(Pz.prog.info? 9).bind (·.zero)=some (.string ⟨#[]⟩):=by kernel_rfl
  rw[hui]at this;exact this
 have is1:ui.size=1:=by
  have:(Pz.prog.info? 9).map (·.size)=some 1:=by kernel_rfl
  rw[hui]at this;exact Option.some.inj this
 have ib:ui.bytes=16:=by
  have:(Pz.prog.info? 9).map (·.bytes)=some 16:=by kernel_rfl
  rw[hui]at this;exact Option.some.inj this
 have hn9:(n:Int)≤40000:=by omega
 have hi4i:(i:Int)<4:=by omega
 have hn1:IntKind.i64.wrap ((n:Int)+1)=(n:Int)+1:=by simp[IntKind.wrap,IntKind.bits,IntKind.signed];omega
 clear h hH hM etv hn hlen hps hi hp htd hb5 hb0 hptk htk
 generalize bytesK i (Int.tdiv c 4)=s at *
 generalize (⟨#[(97+i).toUInt8]⟩:ByteArray)=nm at *
 go_enter Pz.func48,Tryz.ntmps48
 go_wp2_with (first|(go_at_call 25;refine Calls.mono (HPk.out _) ?_;rintro e w' ⟨rfl,hw⟩;rw[hw];clear hw w')|(go_at_call 24;refine Calls.mono HBy.out ?_;rintro e w1 ⟨rfl,⟨r0,r1,rt,rl⟩,HB1⟩))
 have HB1d:Hid (Below w.heap.size w w1.drew):=HB1.out.drew
 have d0:w1.drew.cell? ⟨Q.pb,0,none⟩=some (.pointer (some ⟨Q.hbk,0,none⟩)):=r0
 have d1:w1.drew.cell? ⟨Q.pb,1,none⟩=some (.int .i64 Q.m):=r1
 have dt:w1.drew.cell? ⟨Q.pb,4+i,none⟩=some (.slice ta n tcap):=rt
 go_region_held3 (fun w'=>w'.cell? ⟨Q.pb,0,none⟩=some (.pointer (some ⟨Q.hbk,0,none⟩))∧w'.cell? ⟨Q.pb,1,none⟩=some (.int .i64 Q.m)∧w'.cell? ⟨Q.pb,4+i,none⟩=some (.slice ta n tcap)) (first|(with_reducible assumption)|(refine ⟨?_,?_,?_⟩<;>(with_reducible assumption))|go_keep) (first|(go_at_call 27;refine Calls.mono (HNm.out _) ?_;rintro e w' ⟨rfl,rfl⟩)|(go_at_call 58;refine Calls.mono (HSb.out _ HB1d) ?_;rintro e w2 ⟨x,rfl,hqs,HQ⟩))
 rcases HQ.out with ⟨hk,⟨rfl,ho1,f2,h2⟩|⟨rfl,ho1,h8,f2,h2⟩|⟨rfl,ho1,h8,wv2,f2,h2⟩⟩
 ·have b11:w2.cell? ⟨Q.pb,11,none⟩=some (.bool true):=by
   have:=h2.play.cell (i:=11) rfl
   rw[hov,ho1]at this
   exact this
  have HF:=(show Hid _ from h2)
  have HK:=(show Hid _ from hk)
  clear h2 hk hqs HQ HSb
  go_wp2_with fail
  go_ret
  exact ⟨rfl,HK.out,.inl ⟨.inl ho1,f2,HF.out⟩⟩
 ·have HF:=(show Hid _ from h2)
  have HK:=(show Hid _ from hk)
  clear h2 hk hqs HQ HSb
  go_wp2_with fail
  go_ret
  exact ⟨rfl,HK.out,.inl ⟨.inr h8,f2,HF.out⟩⟩
 ·have HF:=(show Hid _ from h2)
  have HK:=(show Hid _ from hk)
  have hb2:BlkAt w2 Q.pb _ _:=h2.play
  have et:w2.drew.cell? ⟨Q.pb,4+i,none⟩=some (.slice ta n tcap):=hqs.2.2
  have ez:w2.drew.frozen? ⟨Q.pb,4+i,none⟩=false:=hb2.free (4+i)
  have hl2:Q.pb<w2.drew.heap.size:=hb2.lt
  have hrow:RowAt w2.drew 9 1 (.slice ta n tcap) n ((Q.tk i).bs.map .string):=by
   have:=(h2.row i).same (w':=w2.drew) fun k _=>rfl
   rw[show (PSt.tk { Q with M:=Q.M.plays i ⟨p.b,p.tk+1,wv2,p.cs++[cmdAt s 0]⟩ } i)=Q.tk i from rfl,HQT.out,HNN.out]at this
   exact this
  have HR:=(show Hid _ from hrow)
  have et2:(w2.alloc (.cells #[.string s] 9)).drew.cell? ⟨Q.pb,4+i,none⟩=some (.slice ta n tcap):=(World.cell?_of_block (w:=w2.drew) (Below.heap_alloc w2.drew _ _ hl2)).trans et
  have ez2:(w2.alloc (.cells #[.string s] 9)).drew.frozen? ⟨Q.pb,4+i,none⟩=false:=(World.frozen?_of_block (w:=w2.drew) (Below.heap_alloc w2.drew _ _ hl2)).trans ez
  have hnp:(Value.slice ta n tcap).ownBlock≠some Q.pb:=fun e=>by
   rw[← HQT.out]at e
   exact h2.ne (h2.ftk (i:=i) e) h2.fpl (by simp) rfl
  have HTk:Hid (∀ (o:Obj) (w4:World) (v':Value),(w2.drew.alloc o).grownBy w4 (Value.slice ta n tcap).ownBlock→RowAt w4 9 1 v' (n+1) ((Q.tk i).bs.map .string++[.string s])→(v'.ownBlock=(Value.slice ta n tcap).ownBlock∨v'.ownBlock=some (w2.drew.alloc o).heap.size)→(w4.setCell ⟨Q.pb,4+i,none⟩ v').cell? ⟨Q.pb,11,none⟩=some (.bool false)∧Hid (SubSaid w D Q i p s (.returned (.bool true)) (w4.setCell ⟨Q.pb,4+i,none⟩ v'))):=fun o w4 v' hg hr hob=>by
   have h3:=HF.out.on (w':=w2.drew) fun k _ _=>rfl
   rw[← HQT.out]at hg hob
   rw[← HNN.out]at hr
   obtain ⟨f4,h4,hk4⟩:=h3.takes (i:=i) hi4 (s:=s) hg hr hob
   have b11:=h4.play.cell (i:=11) rfl
   have e:(PSt.takes { Q with M:=Q.M.plays i ⟨p.b,p.tk+1,wv2,p.cs++[cmdAt s 0]⟩ } i ⟨v',(Q.tk i).bs++[s]⟩).over=false:=hov.trans ho1
   refine ⟨?_,rfl,?_,.inr ⟨ho1,h8,wv2,v',f4,h4.own fun k hd _=>?_⟩⟩
   ·rw[e]at b11
    exact b11
   ·have hkd:Keep D w w2.drew:=HK.out.drew
    exact hkd.trans hk4 fun j hj=>hj.imp id fun x=>x
   ·rcases hd with (hd|hd)|hd
    ·exact .inl hd
    ·exact .inr hd
    ·exact .inr (Nat.le_trans HK.out.size hd)
  clear h2 hk hb2 HQ HSb hrow hqs
  go_wp2_with fail
  go_region_law (first
   | (refine step_append_row (v:=.slice ta n tcap) (n:=n) (xs:=(Q.tk i).bs.map .string) (ad:=⟨w2.heap.size,0,none⟩) (c:=1) (u:=.string s) rfl (.tmp 47) (.tmp 49) 34 rfl 9 ui (.string ⟨#[]⟩) 16 ((Pz.gUnderlying 34).trans Tryz.underlying34) hui iz is1 ib rfl rfl (RowAt.alloc HR.out _) rfl (new_cell w2.drew _ _) rfl (by omega) (by decide) ?_;intro v' w4 hr4 hg4 hb4;obtain ⟨g4,cap4,rfl,hv4⟩:=hr4.slice4;have HSS:=(show Hid _ from HTk.out _ w4 _ hg4 hr4 hb4);have c4:w4.cell? ⟨Q.pb,4+i,none⟩=some (.slice ta n tcap):=(World.cell?_of_block (w:=w2.drew.alloc (.cells #[.string s] 9)) (hg4.block Q.pb (Nat.lt_trans hl2 (by simp)) (fun e=>hnp e.symm))).trans et2;have f4:w4.frozen? ⟨Q.pb,4+i,none⟩=false:=(World.frozen?_of_block (w:=w2.drew.alloc (.cells #[.string s] 9)) (hg4.block Q.pb (Nat.lt_trans hl2 (by simp)) (fun e=>hnp e.symm))).trans ez2;clear hr4 hg4 hb4)
   | (go_simp;go_wp2_with fail))
  all_goals
   obtain ⟨x11,HS4⟩:=HSS.out
   go_wp2_with fail
   go_ret
   exact HS4.out
end
end Go.Proofs.YtdianedehhecoaaGreatDoor
/- A play's watcher is told more: poll. -/
namespace Go.Proofs.YtdianedehhecoaaGreatDoor
open Go.RowKit
def PSt.polled (Q:PSt)(j:Nat)(u:Wt)(uv:Value)(most:Nat)(s0:ByteArray):PSt:={ Q with M:=Q.M.watches j ⟨u.b,uv,u.ts.drop most⟩,seen:=Q.seen.set j (s0++joinB (u.ts.take most)) }
theorem app_nil (s:ByteArray):s++(⟨#[]⟩:ByteArray)=s:=by
 apply ByteArray.ext
 simp[ByteArray.data_append]
section
variable {w w':World} {D:Nat→Prop} {Q:PSt} {f:PIx→Nat→Prop} {sd:Int} {P:Nat} {T:List (List RC)}
theorem PSt.polled_none (Q:PSt){j:Nat}{u:Wt}{s0:ByteArray}(most:Nat)(hu:Q.M.ws[j]? = some u)(hs:Q.seen[j]? = some s0)(h0:u.ts=[]):Q.polled j u u.uv most s0=Q:=by
 unfold PSt.polled MSt.watches
 have e1:Q.M.ws.set j ⟨u.b,u.uv,u.ts.drop most⟩=Q.M.ws:=by
  have e:(⟨u.b,u.uv,u.ts.drop most⟩:Wt)=u:=by
   cases u
   simp only at h0
   subst h0
   simp
  rw[e]
  obtain ⟨hl,he⟩:=List.getElem?_eq_some_iff.1 hu
  rw[← he,List.set_getElem_self]
 have e2:Q.seen.set j (s0++joinB (u.ts.take most))=Q.seen:=by
  obtain ⟨hl,he⟩:=List.getElem?_eq_some_iff.1 hs
  rw[h0,List.take_nil,joinB_nil,app_nil,← he,List.set_getElem_self]
 rw[e1,e2]
theorem MSt.watches_b (M:MSt){i:Nat}{u u':Wt}(hu:M.ws[i]? = some u)(hb:u'.b=u.b):((M.watches i u').ws.map (·.b))=M.ws.map (·.b):=by
 have hi:i<M.ws.length:=(List.getElem?_eq_some_iff.1 hu).1
 apply List.ext_getElem?
 intro j
 simp only[MSt.watches,List.getElem?_map,List.getElem?_set]
 split
 ·rename_i e
  subst e
  have hpi:=(List.getElem?_eq_some_iff.1 hu).2
  simp[hi,hpi,hb]
 ·rfl
def PollPost (w:World)(D:Nat→Prop)(Q:PSt)(j:Nat)(u:Wt)(most:Nat)(s:ByteArray)(x:Int)(w':World):Prop :=
 Keep D w w'∧((x=9∧u.ts=[]∧overB Q.M.S=true∧s=⟨#[]⟩∧∃ f',PG w' (Nw D w.heap.size) Q f')∨(x=0∧s=joinB (u.ts.take most)∧∃ uv f',PG w' (Nw D w.heap.size) { Q with M:=Q.M.watches j ⟨u.b,uv,u.ts.drop most⟩ } f'))
theorem PG.pollH (h:PG w D Q f){j:Nat}{u:Wt}(hu:Q.M.ws[j]? = some u)(most:Nat)(hm:most≤100000)(hts:u.ts.length≤100000)(hsz:(joinB (u.ts.take most)).size≤100000000) :
  Calls Pz.prog 64 #[.pointer (some ⟨Q.hbk,0,none⟩),.int .i64 j,.int .i64 most] w fun e w'=>∃ s x,e=.returned (.tuple #[.string s,.int .i64 x])∧PollPost w D Q j u most s x w':=by
 obtain ⟨g,hM⟩:=h.mat
 have hj:j<Q.M.ws.length:=(List.getElem?_eq_some_iff.1 hu).1
 have h6:=h.ok.six
 refine hpoll_gen (h.host.cell (hostW_at _ _ _ (by rw[List.getElem?_map,hu];rfl))) (by omega) (hM.watcher hu).1 rfl ((hM.poll h.ok.lock hu most hm hts hsz).mono ?_)
 rintro e w' (⟨h1,h2,he,hb⟩|⟨h1,he,uv,g',hM',hk⟩)
 ·exact ⟨_,9,he,(Keep.ofBelow hb).mono fun j hj=>.inr hj,.inl ⟨rfl,h1,h2,rfl,_,(h.below hb).own fun k hd _=>.inl hd⟩⟩
 ·obtain ⟨f',h',hk'⟩:=h.goes hM' hk rfl (Q.M.watches_b hu rfl) rfl h.ok.lock
  exact ⟨_,0,he,hk',.inr ⟨rfl,rfl,uv,f',h'⟩⟩
theorem PG.sees (h:PG w D Q f){g j:Nat}(hg:Q.sv.ownBlock=some g)(t:ByteArray):∃ f',PG (w.setCell ⟨g,j,none⟩ (.string t)) (Nw D w.heap.size) { Q with seen:=Q.seen.set j t } f'∧Keep D w (w.setCell ⟨g,j,none⟩ (.string t)):=by
 refine h.change1 (Q':={ Q with seen:=Q.seen.set j t }) .se ((Keep.refl _ w).set (.inl (h.fse hg))) ?_ (fun i hi=>?_) ⟨h.ok.lock,h.ok.last,h.ok.rooms,by simp[h.ok.seen],h.ok.since,h.ok.six⟩
 ·refine ⟨?_,fun k e=>.inl (h.fse e)⟩
  have:=h.seen.set hg j (.string t)
  simpa using this
 ·cases i<;>first|rfl|exact absurd rfl hi
def PollK (w:World)(D:Nat→Prop)(Q:PSt)(j:Nat)(u:Wt)(most:Nat)(s0:ByteArray)(e:Ending)(w':World):Prop :=
 e=.returned (.bool true)∧Keep D w w'∧∃ uv f',PG w' (Nw D w.heap.size) (Q.polled j u uv most s0) f'
theorem PG.poll (h:PG w D Q f)(hH:Hist sd P Q T){j:Nat}{u:Wt}(hu:Q.M.ws[j]? = some u)(most:Nat)(hm:most≤100000){s0:ByteArray}(hs:Q.seen[j]? = some s0) :
  Calls Pz.prog 35 #[.pointer (some ⟨Q.pb,0,none⟩),.int .i64 j,.int .i64 most] w (PollK w D Q j u most s0):=by
 have hts:=hH.ts_le hu
 have hsl:s0.size≤200000∧(joinB (u.ts.take most)).size≤200000:=by
  obtain ⟨n,k,h1,h2,h3,h4⟩:=hH.told j u hu
  rw[hs]at h3
  have h3:=Option.some.inj h3
  have hmt:=hH.most
  constructor
  ·rw[h3]
   have:=turnsB_size_le ((T.drop n).take k) fun cs hc=>hH.okT cs (List.mem_of_mem_drop (List.mem_of_mem_take hc))
   have:((T.drop n).take k).length≤1000:=by rw[List.length_take,List.length_drop];omega
   omega
  ·have e:joinB (u.ts.take most)=turnsB ((T.drop (n+k)).take most):=by
    unfold turnsB
    rw[List.map_take,← h4]
   rw[e]
   have:=turnsB_size_le ((T.drop (n+k)).take most) fun cs hc=>hH.okT cs (List.mem_of_mem_drop (List.mem_of_mem_take hc))
   have:((T.drop (n+k)).take most).length≤1000:=by rw[List.length_take,List.length_drop];omega
   omega
 have hov:=hH.over
 have hjl:j<Q.M.ws.length:=(List.getElem?_eq_some_iff.1 hu).1
 have hsn:=h.ok.seen
 have q0:w.cell? ⟨Q.pb,0,none⟩=some (.pointer (some ⟨Q.hbk,0,none⟩)):=h.play.cell rfl
 obtain ⟨g,cap,esv,hob,hcap,-,hcell,-⟩:=h.seen.form (by omega)
 have h6:=h.ok.six
 have HPo:Hid (Calls Pz.prog 64 #[.pointer (some ⟨Q.hbk,0,none⟩),.int .i64 j,.int .i64 most] w fun e w'=>∃ s x,e=.returned (.tuple #[.string s,.int .i64 x])∧(w'.drew.cell? ⟨Q.pb,8,none⟩=some (.slice (some ⟨g,0,none⟩) Q.seen.length cap)∧w'.drew.cell? ⟨g,j,none⟩=some (.string s0)∧w'.drew.frozen? ⟨g,j,none⟩=false∧s.size≤200000)∧(x=9∧s=⟨#[]⟩∨x=0)∧(w'.drew.setCell ⟨g,j,none⟩ (.string (s0++s))).cell? ⟨Q.pb,11,none⟩=some (.bool (decide (x=9) || Q.over))∧Hid (PollK w D Q j u most s0 (.returned (.bool true)) (w'.drew.setCell ⟨g,j,none⟩ (.string (s0++s))))):=by
  refine (h.pollH hu most hm (by omega) (by omega)).mono ?_
  rintro e w' ⟨s,x,he,hk,hr⟩
  have hcl:∀ {Q2:PSt} {D2:Nat→Prop} {f2:PIx→Nat→Prop},PG w' D2 Q2 f2→Q2.pb=Q.pb→Q2.sv=Q.sv→Q2.seen=Q.seen→(w'.drew.cell? ⟨Q.pb,8,none⟩=some (.slice (some ⟨g,0,none⟩) Q.seen.length cap)∧w'.drew.cell? ⟨g,j,none⟩=some (.string s0)∧w'.drew.frozen? ⟨g,j,none⟩=false):=fun {Q2} {D2} {f2} hP e1 e2 e3=>by
   have hb:=hP.play
   have hr:=hP.seen
   rw[e2,e3]at hr
   rw[e1]at hb
   obtain ⟨g',cap',e4,-,-,-,hc',hf'⟩:=hr.form (by omega)
   rw[esv]at e4
   injection e4 with e5 e6 e7
   injection e5 with e5
   injection e5 with e5
   subst e5
   have b8:w'.cell? ⟨Q.pb,8,none⟩=some Q2.sv:=hb.cell rfl
   rw[e2,esv]at b8
   exact ⟨b8,hc' j (.string s0) (by rw[List.getElem?_map,hs];rfl),hf' j⟩
  rcases hr with ⟨rfl,h1,h2,rfl,f',h3⟩|⟨rfl,rfl,uv,f',h3⟩
  ·obtain ⟨a1,a2,a3⟩:=hcl h3 rfl rfl rfl
   obtain ⟨f4,h4,hk4⟩:=(h3.on (w':=w'.drew) fun k _ _=>rfl).sees hob (j:=j) (s0++⟨#[]⟩)
   have b11:=h4.play.cell (i:=11) rfl
   refine ⟨_,9,he,⟨a1,a2,a3,by show 0≤_;omega⟩,.inl ⟨rfl,rfl⟩,?_,rfl,hk.drew.trans hk4 fun k hk=>hk,u.uv,f4,?_⟩
   ·rw[show (PSt.over { Q with seen:=Q.seen.set j (s0++⟨#[]⟩) })=true from hov.trans h2]at b11
    exact b11
   ·have e0:Q.polled j u u.uv most s0={ Q with seen:=Q.seen.set j (s0++⟨#[]⟩) }:=by
     rw[Q.polled_none most hu hs h1,app_nil]
     obtain ⟨hl,he⟩:=List.getElem?_eq_some_iff.1 hs
     rw[← he,List.set_getElem_self]
    rw[e0]
    exact h4.own fun k hd _=>hd.elim id fun x=>.inr (Nat.le_trans hk.size x)
  ·obtain ⟨a1,a2,a3⟩:=hcl h3 rfl rfl rfl
   obtain ⟨f4,h4,hk4⟩:=(h3.on (w':=w'.drew) fun k _ _=>rfl).sees hob (j:=j) (s0++joinB (u.ts.take most))
   have b11:=h4.play.cell (i:=11) rfl
   refine ⟨_,0,he,⟨a1,a2,a3,hsl.2⟩,.inr rfl,b11,rfl,hk.drew.trans hk4 fun k hk=>hk,uv,f4,h4.own fun k hd _=>hd.elim id fun x=>.inr (Nat.le_trans hk.size x)⟩
 have hji:(j:Int)<Q.seen.length:=by omega
 have hsl0:=hsl.1
 clear h hH hcell esv hob hsl hov hu hs hsn
 generalize hsn:Q.seen.length=n at *
 go_enter Pz.func35,Tryz.ntmps35
 go_wp2_with (first|(go_at_call 64;refine Calls.mono HPo.out ?_;rintro e w2 ⟨s,x,rfl,⟨e8,eg,ez,hss⟩,hx,e11,HQ⟩))
 go_region_with (fail)
 all_goals
  have e12:(w2.setCell ⟨g,j,none⟩ (.string (s0++s))).drew.cell? ⟨Q.pb,11,none⟩=some (.bool (decide (x=9) || Q.over)):=e11
  clear e11
  rcases hx with ⟨rfl,rfl⟩|rfl
  ·simp only[decide_true,Bool.true_or]at e12
   go_wp2_with fail
   go_ret
   exact HQ.out
  ·go_wp2_with fail
   go_ret
   exact HQ.out
end
end Go.Proofs.YtdianedehhecoaaGreatDoor