/- Watched: up to what is left alone. -/
import Derived.Test.YtdianedehhecoaaGreatDoorTCoG
import Derived.Test.YtdianedehhecoaaGreatDoorTTwins
set_option linter.unusedSectionVars false
set_option linter.unusedVariables false
set_option linter.unusedSimpArgs false
set_option maxRecDepth 20000
namespace Go.Proofs.YtdianedehhecoaaGreatDoor.Co
variable [Loops]
open Go.Conc (G stepG_enter run_call_body events_call_body seen_none listed)
open Go.RowKit
theorem wpOps_valw {P:Program}{ops:Array Oper}{Q:Exit→Act→World→Prop}{i:Nat}{rest:List Nat}{a:Act}{w w':World}{o:Oper}{v:Value}(ho:ops[i]? = some o)(hw:Region.wanted o (yielded ops a.tmps)=true)(hr:(execOp a.eval o).run P w=.ok (.value v) w')(h:wpOps P ops Q rest (a.put o.dst v) w'):wpOps P ops Q (i :: rest) a w:=by
 rw[wpOps_cons]
 unfold wpOp
 rw[ho]
 dsimp only
 rw[if_pos hw]
 refine .inl ?_
 unfold Oper.wp
 rw[hr]
 exact h
theorem WR.op1 {ops:Array Oper}{j d:Nat}{rest:List Nat}{o:Oper}{v:Value}{Q:Exit→Act→World→Prop}{a:Act}{w:World}(ho:ops[j]? = some o)(hw:Region.wanted o (yielded ops a.tmps)=true)(hds:o.dst=some d)(hr:∀ w,(execOp a.eval o).run PP.s w=.ok (.value v) w)
  (h:∀ w',like w' w→WR PP ops rest Q (a.put (some d) v) w'):WR PP ops (j :: rest) Q a w:=by
 refine WR.pre (pre:=[j]) (rest:=rest) (K:=fun a' w'=>a'=a.put (some d) v∧like w' w) PP_rdy (fun t d'=>?_) ?_
 ·refine wpOps_valw (v:=v) (w':=re w t d') ho hw (hr _) ?_
  rw[hds]
  exact ⟨rfl,rfl,rfl,rfl,rfl⟩
 ·rintro a' w' ⟨t,d',rfl,l⟩
  exact h w' l
structure HasS (n:Nat)(l:List (Nat × Value))(a:Act):Prop where
 size:a.tmps.size=n
 defers:a.defers=[]
 at_:∀ p,p∈l→a.tmps.getD p.1 undef=p.2
theorem HasS.get {n:Nat}{l:List (Nat × Value)}{a:Act}(h:HasS n l a)(s:Nat)(v:Value)(hm:(s,v)∈l):a.tmps.getD s undef=v:=h.at_ (s,v) hm
theorem wanted_none {o:Oper}{y:Nat→Option Bool}(h:o.guard=none):Region.wanted o y=true:=by unfold Region.wanted;rw [h]
end Go.Proofs.YtdianedehhecoaaGreatDoor.Co
/- Watched, beside leavers. -/
namespace Go.Proofs.YtdianedehhecoaaGreatDoor.Co
variable [Loops]
open Go.Conc (G)
open Go.RowKit
structure S7 (sd pl bh sl:Value)(a:Act):Prop where
 size:a.tmps.size=109
 defers:a.defers=[]
 s0:a.tmps.getD 0 undef=sd
 s1:a.tmps.getD 1 undef=pl
 s2:a.tmps.getD 2 undef=bh
 s3:a.tmps.getD 3 undef=sl
section
variable {w:World} {a:Act} {seed players behind:Int} {sl:Value} {pb:Nat}
end
theorem run_assign {P:Program}{o:Oper}{a:Act}{s:Nat}{v:Value}(hop:o.op=.assign (.tmp s))(hs:a.tmps.getD s undef=v)(w:World):(execOp a.eval o).run P w=.ok (.value v) w:=by
 unfold execOp
 rw[hop]
 show Result.ok (Next.value (a.eval (.tmp s))) w=_
 rw[show a.eval (.tmp s)=v from hs]
end Go.Proofs.YtdianedehhecoaaGreatDoor.Co
/- Watched, beside leavers: the whole. -/
namespace Go.Proofs.YtdianedehhecoaaGreatDoor.Co
variable [Loops]
open Go.Conc (G)
open Go.RowKit
section
variable {W w w':World} {N pb:Nat} {sd:Int} {P:Nat}
theorem Stays.self (D:Nat→Prop)(w:World):Stays D w w:=⟨rfl,rfl,Nat.le_refl _,fun _ _ _=>rfl⟩
theorem Stays.low {a b c:World}(h:Stays (fun k=>N≤k) a b)(g:Stays (fun k=>N≤k) b c):Stays (fun k=>N≤k) a c :=
 ⟨g.os.trans h.os,g.output.trans h.output,Nat.le_trans h.size g.size,fun j hj hn=>(g.block j (Nat.lt_of_lt_of_le hj h.size) hn).trans (h.block j hj hn)⟩
end
section
variable {W:World} {a0:Act} {seed players behind:Int} {sa:Option Addr} {cap:Nat} {L:List Int}
end
end Go.Proofs.YtdianedehhecoaaGreatDoor.Co
/- Watched: one good run from every start. -/
namespace Go.Proofs.YtdianedehhecoaaGreatDoor.Co
open Go.Conc (G solo)
open Go.RowKit
theorem calmedCell {W:World}{a:Addr}{v:Value}(h:W.cell? a=some v):(calmed W).cell? a=some v:=by
 have e:(calmed W).heap[a.block]? = (W.heap[a.block]?).map maskO:=by simp[calmed]
 unfold World.cell? at h ⊢
 rw[e]
 cases ho:W.heap[a.block]? with
 | none=>rw[ho]at h;exact h
 | some o =>
  rw[ho]at h
  cases o<;>first|exact h|(simp at h;done)
theorem calmedSize (W:World):(calmed W).heap.size=W.heap.size:=by simp [calmed]
theorem scr_calmed {W:World}{v:Value}{L:List Int}(h:NArg W v L):Scr (calmed W) (calmed W).heap.size v L:=by
 obtain ⟨a,cap,e,hk⟩:=h
 refine ⟨a,cap,e,fun k hkl=>?_⟩
 obtain ⟨g,o,h1,h2,h3,h4⟩:=hk k hkl
 exact ⟨g,o,h1,by rw[calmedSize];exact h2,calmedCell h3,h4⟩
end Go.Proofs.YtdianedehhecoaaGreatDoor.Co
/- A region that reads two numbers of a script and calls move with them, beside leavers. -/
namespace Go.Proofs.YtdianedehhecoaaGreatDoor.Co
variable [Loops]
open Go.Conc (G)
open Go.RowKit
def shpOp (b ps ss is:Nat):Nat→Op
 | 0=>.move (.tmp ps)
 | 1=>.move (.tmp ss)
 | 2=>.move (.tmp is)
 | 3=>.indexAddr 25 (.tmp (b+1)) (.tmp (b+2))
 | 4=>.load 3 (.tmp (b+3))
 | 5=>.move (.tmp ss)
 | 6=>.move (.tmp is)
 | 7=>.binOp .add 3 (.tmp (b+6)) (.const (.int .i64 1)) 3
 | 8=>.indexAddr 25 (.tmp (b+5)) (.tmp (b+7))
 | 9=>.load 3 (.tmp (b+8))
 | 10=>.call { callee:=.value (.func 22),args:=#[.tmp b,.tmp (b+4),.tmp (b+9)],argTypes:=#[26,3,3] }
 | _=>.assign (.tmp (b+10))
structure Shp (ops:Array Oper)(b ps ss is rs:Nat):Prop where
 op:∀ q,q<12→∃ o,ops[q]? = some o∧o.op=shpOp b ps ss is q∧o.dst=some (if q=11 then rs else b+q)∧o.guard=none
 e31:Edge .any ops 3 1
 e32:Edge .any ops 3 2
 e43:Edge .any ops 4 3
 e76:Edge .any ops 7 6
 e85:Edge .any ops 8 5
 e87:Edge .any ops 8 7
 e98:Edge .any ops 9 8
 chk:Chk .any ops 10
 r10:Region.ready .any ops (lastL 10)=[10]
 r11:Region.ready .any ops ((lastL 10).setIfInBounds 10 true)=[11]
section
variable {w:World} {pb g o cap n i b ps ss is rs nn id:Nat} {kd c:Int} {a0:Act} {ops:Array Oper}
theorem Shp.hop (hS:Shp ops b ps ss is rs)(hb:ps<b∧ss<b∧is<b)(h0:a0.tmps.getD ps undef=pW pb)(h1:a0.tmps.getD ss undef=.slice (some ⟨g,o,none⟩) n cap)(h5:a0.tmps.getD is undef=.int .i64 i)(hi:i+1<n)(hn:n≤140737488351232)(hk:w.cell? ⟨g,o+i,none⟩=some (.int .i64 kd))(hc:w.cell? ⟨g,o+(i+1),none⟩=some (.int .i64 c)) :
  ∀ q,q<10→∃ op,ops[q]? = some op∧op.guard=none∧op.dst=some (b+q)∧∀ a:Act,(∀ j,j<10→Edge .any ops q j→a.tmps.getD (b+j) undef=V13 pb g o (.slice (some ⟨g,o,none⟩) n cap) i kd c j)→(∀ s,(∀ j,j<10→b+j≠s)→a.tmps.getD s undef=a0.tmps.getD s undef)→(execOp a.eval op).run Pz.prog w=.ok (.value (V13 pb g o (.slice (some ⟨g,o,none⟩) n cap) i kd c q)) w:=by
 intro q hq
 have hii:(i:Int)<n:=by omega
 have hii1:(i:Int)+1<n:=by omega
 have hw1:IntKind.i64.wrap ((i:Int)+1)=(i:Int)+1:=by simp[IntKind.wrap,IntKind.bits,IntKind.signed];omega
 obtain ⟨op,ho,hop,hds,hgd⟩:=hS.op q (by omega)
 rw[if_neg (by omega)]at hds
 refine ⟨op,ho,hgd,hds,fun a hd hba=>?_⟩
 have mv:∀ (s:Nat) (v:Value),s<b→a0.tmps.getD s undef=v→op.op=.move (.tmp s)→(execOp a.eval op).run Pz.prog w=.ok (.value v) w:=fun s v hs hv ho=>by
  have e:a.eval (.tmp s)=v:=(hba s fun j hj=>by omega).trans hv
  unfold execOp
  rw[ho]
  show Result.ok (Next.value (a.eval (.tmp s))) w=_
  rw[e]
 have hcs:q=0∨q=1∨q=2∨q=3∨q=4∨q=5∨q=6∨q=7∨q=8∨q=9:=by omega
 rcases hcs with rfl|rfl|rfl|rfl|rfl|rfl|rfl|rfl|rfl|rfl
 ·exact mv ps _ hb.1 h0 hop
 ·exact mv ss _ hb.2.1 h1 hop
 ·exact mv is _ hb.2.2 h5 hop
 ·have e1:a.eval (.tmp (b+1))=.slice (some ⟨g,o,none⟩) n cap:=hd 1 (by omega) hS.e31
  have e2:a.eval (.tmp (b+2))=.int .i64 i:=hd 2 (by omega) hS.e32
  show (execOp a.eval op).run Pz.prog w=.ok (.value (.pointer (some ⟨g,o+i,none⟩))) w
  unfold execOp
  rw[hop]
  clear hd hba mv hop
  generalize a.eval=ev at *
  simp only[shpOp]
  go_simp
 ·have e1:a.eval (.tmp (b+3))=.pointer (some ⟨g,o+i,none⟩):=hd 3 (by omega) hS.e43
  show (execOp a.eval op).run Pz.prog w=.ok (.value (.int .i64 kd)) w
  unfold execOp
  rw[hop]
  clear hd hba mv hop
  generalize a.eval=ev at *
  simp only[shpOp]
  go_simp
 ·exact mv ss _ hb.2.1 h1 hop
 ·exact mv is _ hb.2.2 h5 hop
 ·have e1:a.eval (.tmp (b+6))=.int .i64 i:=hd 6 (by omega) hS.e76
  have e2:a.eval (.const (.int .i64 1))=.int .i64 1:=rfl
  show (execOp a.eval op).run Pz.prog w=.ok (.value (.int .i64 ((i:Int)+1))) w
  unfold execOp
  rw[hop]
  clear hd hba mv hop
  generalize a.eval=ev at *
  simp only[shpOp]
  go_simp
 ·have e1:a.eval (.tmp (b+5))=.slice (some ⟨g,o,none⟩) n cap:=hd 5 (by omega) hS.e85
  have e2:a.eval (.tmp (b+7))=.int .i64 ((i:Int)+1):=hd 7 (by omega) hS.e87
  have e3:((i:Int)+1).toNat=i+1:=by omega
  show (execOp a.eval op).run Pz.prog w=.ok (.value (.pointer (some ⟨g,o+(i+1),none⟩))) w
  unfold execOp
  rw[hop]
  clear hd hba mv hop
  generalize a.eval=ev at *
  simp only[shpOp]
  go_simp
  intro hx
  omega
 ·have e1:a.eval (.tmp (b+8))=.pointer (some ⟨g,o+(i+1),none⟩):=hd 8 (by omega) hS.e98
  show (execOp a.eval op).run Pz.prog w=.ok (.value (.int .i64 c)) w
  unfold execOp
  rw[hop]
  clear hd hba mv hop
  generalize a.eval=ev at *
  simp only[shpOp]
  go_simp
theorem Shp.region (hS:Shp ops b ps ss is rs)(hb:ps<b∧ss<b∧is<b)(hrs:rs<b)(hnn:b+10<nn){a:Act}(hz:a.tmps.size=nn)(hdf:a.defers=[])(h0:a.tmps.getD ps undef=pW pb)(h1:a.tmps.getD ss undef=.slice (some ⟨g,o,none⟩) n cap)(h5:a.tmps.getD is undef=.int .i64 i)(hi:i+1<n)(hn:n≤140737488351232)(hk:w.cell? ⟨g,o+i,none⟩=some (.int .i64 kd))(hc:w.cell? ⟨g,o+(i+1),none⟩=some (.int .i64 c))
  {R:World→Prop} (hR:∀ w w',R w→like w' w→R w') (hCB:∀ w',like w' w→CB PP 22 #[pW pb,.int .i64 kd,.int .i64 c] w' fun v w2=>v=.bool true∧R w2) :
  WB PP (.region id ops true) (fun e a' w'=>e=.normal∧(a'.tmps.size=nn∧a'.defers=[]∧a'.tmps.getD rs undef=.bool true∧∀ s,s<b→s≠rs→a'.tmps.getD s undef=a.tmps.getD s undef)∧R w') a w:=by
 refine WB.draw_two PP_rdy mixed14 hS.chk.size (ends_of hS.chk) hS.r10 hS.r11 (K:=fun a' w'=>((a'.tmps.size=nn∧a'.defers=[]∧∀ s,s<b→a'.tmps.getD s undef=a.tmps.getD s undef)∧a'.tmps.getD b undef=pW pb∧a'.tmps.getD (b+4) undef=.int .i64 kd∧a'.tmps.getD (b+9) undef=.int .i64 c)∧like w' w) (fun t d=>?_) ?_
 ·refine up_stable (N:=nn) (V:=V13 pb g o (.slice (some ⟨g,o,none⟩) n cap) i kd c) (dst:=fun q=>b+q) (base:=fun s=>a.tmps.getD s undef) hS.chk (fun q hq=>by omega) (fun q r _ _ e=>by omega) (hS.hop (w:=re w t d) hb h0 h1 h5 hi hn hk hc) (fun a' b1 b2 b3 b4=>?_) a hz hdf (fun s=>rfl)
  exact ⟨⟨⟨b1,b2,fun s hs=>b4 s fun j _=>by omega⟩,b3 0 (by omega),b3 4 (by omega),b3 9 (by omega)⟩,rfl,rfl,rfl⟩
 ·rintro a' w' ⟨t,d,⟨⟨k1,k2,k3⟩,q0,q4,q9⟩,l⟩
  have l:like w' w:=l
  obtain ⟨o1,ho1,hop1,hds1,hgd1⟩:=hS.op 10 (by omega)
  obtain ⟨o2,ho2,hop2,hds2,hgd2⟩:=hS.op 11 (by omega)
  rw[if_neg (by omega)]at hds1
  rw[if_pos rfl]at hds2
  refine WR.call ho1 hop1 hgd1 f22_fn (by kernel_rfl) (by kernel_rfl) ?_
  have ea:(#[Operand.tmp b,Operand.tmp (b+4),Operand.tmp (b+9)].map a'.eval)=#[pW pb,.int .i64 kd,.int .i64 c]:=by
   simp only[List.map_toArray,List.map_cons,List.map_nil]
   rw[show a'.eval (.tmp b)=pW pb from q0,show a'.eval (.tmp (b+4))=.int .i64 kd from q4,show a'.eval (.tmp (b+9))=.int .i64 c from q9]
  rw[ea]
  refine (hCB w' l).mono ?_
  rintro v w2 ⟨rfl,hr⟩
  rw[hds1]
  have hs1:b+10<a'.tmps.size:=by rw[k1];exact hnn
  have hs2:rs<(a'.put (some (b+10)) (.bool true)).tmps.size:=by rw[act_size,k1];omega
  refine WR.op1 ho2 (wanted_none hgd2) hds2 (run_assign hop2 (v:=.bool true) ?_) fun w3 l3=>WR.nil ⟨rfl,⟨by rw[act_size,act_size];exact k1,k2,?_,fun s hs hn=>?_⟩,hR w2 w3 hr l3⟩
  ·rw[put_getD _ _ _ _ hs1,if_pos rfl]
  ·rw[put_getD _ _ _ _ hs2,if_pos rfl]
  ·rw[put_getD _ _ _ _ hs2,if_neg hn,put_getD _ _ _ _ hs1,if_neg (by omega)]
   exact k3 s hs
end
end Go.Proofs.YtdianedehhecoaaGreatDoor.Co
/- Twins: three plays beside one another. -/
namespace Go.Proofs.YtdianedehhecoaaGreatDoor.Co
variable [Loops]
open Go.Conc (G)
open Go.RowKit
structure Ply where
 pb:Nat
 sd:Int
 P:Nat
 V:Vw
noncomputable def Ply.mv (x:Ply)(kd c:Int):Ply:={ x with V:=x.V.move x.P kd c }
def Own (w:World)(D:Nat→Prop)(x:Ply):Prop:=∃ Q T,PA w D x.pb x.sd x.P T Q∧Q.vw=x.V
def Tri (W:World)(N:Nat)(x y z:Ply)(w:World):Prop :=
 Stays (fun k=>N≤k) W w∧∃ D1 D2 D3,Own w D1 x∧Own w D2 y∧Own w D3 z∧(∀ k,D1 k→¬ D2 k∧¬ D3 k)∧(∀ k,D2 k→¬ D3 k)∧∀ k,D1 k∨D2 k∨D3 k→N≤k∧k<w.heap.size
def B1 (W:World)(N:Nat)(x:Ply)(w:World):Prop:=Stays (fun k=>N≤k) W w∧Own w (fun k=>N≤k∧k<w.heap.size) x
def B2 (W:World)(N:Nat)(x y:Ply)(w:World):Prop:=Stays (fun k=>N≤k) W w∧∃ M,N≤M∧M≤w.heap.size∧Own w (fun k=>N≤k∧k<M) x∧Own w (fun k=>M≤k∧k<w.heap.size) y
section
variable {W w w':World} {N:Nat} {x y z:Ply} {D D':Nat→Prop}
theorem Own.on (h:Own w D x)(hb:∀ k,D k→k<w.heap.size→w'.heap[k]? = w.heap[k]?):Own w' D x:=by
 obtain ⟨Q,T,h1,h2⟩:=h
 exact ⟨Q,T,PA.on h1 hb,h2⟩
theorem Stays.like (h:Stays D W w)(l:like w' w):Stays D W w':=⟨l.2.1.trans h.os,l.2.2.trans h.output,by rw [l.1];exact h.size,fun j hj hn=>by rw [l.1];exact h.block j hj hn⟩
theorem Tri.like (h:Tri W N x y z w)(l:like w' w):Tri W N x y z w':=by
 obtain ⟨h0,D1,D2,D3,h1,h2,h3,h4⟩:=h
 exact ⟨h0.like l,D1,D2,D3,h1.on fun k _ _=>by rw[l.1],h2.on fun k _ _=>by rw[l.1],h3.on fun k _ _=>by rw[l.1],by rw[l.1];exact h4⟩
theorem B1.like (h:B1 W N x w)(l:like w' w):B1 W N x w':=⟨h.1.like l,by rw [l.1];exact h.2.on fun k _ _=>by rw [l.1]⟩
theorem B2.like (h:B2 W N x y w)(l:like w' w):B2 W N x y w':=by
 obtain ⟨h0,M,h1,h2,h3,h4⟩:=h
 exact ⟨h0.like l,M,h1,by rw[l.1];exact h2,h3.on fun k _ _=>by rw[l.1],by rw[l.1];exact h4.on fun k _ _=>by rw[l.1]⟩
theorem Tri.swap (h:Tri W N x y z w):Tri W N y x z w:=by
 obtain ⟨h0,D1,D2,D3,h1,h2,h3,h4,h5,h6⟩:=h
 exact ⟨h0,D2,D1,D3,h2,h1,h3,fun k hk=>⟨fun g=>(h4 k g).1 hk,h5 k hk⟩,fun k hk=>(h4 k hk).2,fun k hk=>h6 k (hk.elim (fun g=>.inr (.inl g)) fun g=>g.elim .inl fun g=>.inr (.inr g))⟩
theorem Tri.turn (h:Tri W N x y z w):Tri W N z y x w:=by
 obtain ⟨h0,D1,D2,D3,h1,h2,h3,h4,h5,h6⟩:=h
 exact ⟨h0,D3,D2,D1,h3,h2,h1,fun k hk=>⟨fun g=>h5 k g hk,fun g=>(h4 k g).2 hk⟩,fun k hk g=>(h4 k g).1 hk,fun k hk=>h6 k (hk.elim (fun g=>.inr (.inr g)) fun g=>g.elim (fun g=>.inr (.inl g)) .inl)⟩
theorem Tri.move (h:Tri W N x y z w)(hN:N≤W.heap.size)(h4:4<N)(hd:W.cell? ⟨4,15,none⟩=some (.int .u8 4))(p1:1≤x.P)(kd c:Int)(k0:-9223372036854775808≤kd)(k1:kd≤9223372036854775807)(c0:-9223372036854775808≤c)(c1:c≤9223372036854775807) :
  CB PP 22 #[pW x.pb,.int .i64 kd,.int .i64 c] w fun v w'=>v=.bool true∧Tri W N (x.mv kd c) y z w':=by
 obtain ⟨h0,D1,D2,D3,⟨Q,T,hP,hV⟩,h2,h3,e1,e2,e3⟩:=h
 refine (move_cb hP p1 kd c k0 k1 c0 c1 ((World.cell?_of_block (w:=W) (h0.block 4 (by omega) (by omega))).trans hd) (fun x=>by have:=e3 4 (.inl x);omega) fun k hk=>(e3 k (.inl hk)).2).mono ?_
 rintro v w' ⟨rfl,hs,Q',T',hP',hV'⟩
 have hz:=h0.size
 have hz2:=hs.size
 refine ⟨rfl,h0.low (hs.mono fun k hk=>(e3 k (.inl hk)).1),fun k=>Nw D1 w.heap.size k∧k<w'.heap.size,D2,D3,⟨Q',T',PA.own hP' fun k hk hl=>⟨hk,hl⟩,by rw[hV',hV];rfl⟩,h2.on fun k hk hl=>hs.block k hl fun g=>(e1 k g).1 hk,h3.on fun k hk hl=>hs.block k hl fun g=>(e1 k g).2 hk,?_,e2,?_⟩
 ·rintro k ⟨g|g,_⟩
  ·exact e1 k g
  ·exact ⟨fun j=>by have:=e3 k (.inr (.inl j));omega,fun j=>by have:=e3 k (.inr (.inr j));omega⟩
 ·rintro k (⟨g|g,hk⟩|g|g)
  ·exact ⟨(e3 k (.inl g)).1,hk⟩
  ·exact ⟨by omega,hk⟩
  ·have:=e3 k (.inr (.inl g));omega
  ·have:=e3 k (.inr (.inr g));omega
theorem Stays.corners (h:Stays (fun k=>N≤k) W w)(hN:N=W.heap.size)(hC:Corners W)(hD:W.cell? ⟨4,15,none⟩=some (.int .u8 4))(t:Nat→Question→Nat)(d:Nat):Corners (re w t d)∧(re w t d).cell? ⟨4,15,none⟩=some (.int .u8 4):=by
 have hlow:∀ a:Addr,∀ v,W.cell? a=some v→(re w t d).cell? a=some v:=fun a v h0=>by
  have hl:=cell_lt h0
  exact (World.cell?_of_block (w:=W) (h.block _ hl (by omega))).trans h0
 exact ⟨fun p hp=>by
  obtain ⟨h1,h2,h3,h4⟩:=hC p hp
  exact ⟨hlow _ _ h1,hlow _ _ h2,hlow _ _ h3,hlow _ _ h4⟩,hlow _ _ hD⟩
theorem begun1 {sd:Int}{P:Nat}{t:Nat→Question→Nat}{d:Nat}(h:Stays (fun k=>N≤k) W w)(hN:w.heap.size=N){e:Ending}(hb:Begun3 (re w t d) sd P e w'):∃ pb,e=.returned (.tuple #[.pointer (some ⟨pb,0,none⟩),.bool true])∧B1 W N ⟨pb,sd,P,vw0 sd P⟩ w':=by
 obtain ⟨pb,he,-,hb,Q,hPA,hV⟩:=hb
 exact ⟨pb,he,h.low ⟨hb.os,hb.output,hb.size,fun j hj _=>hb.block j hj⟩,Q,[],PA.own hPA fun k hk hl=>⟨by rw[← hN];exact hk,hl⟩,hV⟩
theorem begun2 {sd:Int}{P:Nat}{t:Nat→Question→Nat}{d:Nat}(h:B1 W N x w){e:Ending}(hNw:N≤w.heap.size)(hb:Begun3 (re w t d) sd P e w'):∃ pb,e=.returned (.tuple #[.pointer (some ⟨pb,0,none⟩),.bool true])∧B2 W N x ⟨pb,sd,P,vw0 sd P⟩ w':=by
 obtain ⟨pb,he,-,hb,Q,hPA,hV⟩:=hb
 exact ⟨pb,he,h.1.low ⟨hb.os,hb.output,hb.size,fun j hj _=>hb.block j hj⟩,w.heap.size,hNw,hb.size,h.2.on fun k hk hl=>hb.block k hl,Q,[],PA.own hPA fun k hk hl=>⟨hk,hl⟩,hV⟩
theorem begun3 {sd:Int}{P:Nat}{t:Nat→Question→Nat}{d:Nat}(h:B2 W N x y w){e:Ending}(hb:Begun3 (re w t d) sd P e w'):∃ pb,e=.returned (.tuple #[.pointer (some ⟨pb,0,none⟩),.bool true])∧Tri W N x y ⟨pb,sd,P,vw0 sd P⟩ w':=by
 obtain ⟨pb,he,-,hb,Q,hPA,hV⟩:=hb
 obtain ⟨h0,M,h1,h2,h3,h4⟩:=h
 have hz:w.heap.size≤w'.heap.size:=hb.size
 refine ⟨pb,he,h0.low ⟨hb.os,hb.output,hb.size,fun j hj _=>hb.block j hj⟩,_,_,fun k=>w.heap.size≤k∧k<w'.heap.size,h3.on fun k hk hl=>hb.block k hl,h4.on fun k hk hl=>hb.block k hl,⟨Q,[],PA.own hPA fun k hk hl=>⟨hk,hl⟩,hV⟩,?_,?_,?_⟩
 ·rintro k ⟨g1,g2⟩
  exact ⟨fun g=>by omega,fun g=>by omega⟩
 ·rintro k ⟨g1,g2⟩ g
  omega
 ·rintro k (g|g|g)<;>omega
end
theorem HasS.keep {n b rs:Nat}{l:List (Nat × Value)}{a a':Act}(h:HasS n l a)(k:a'.tmps.size=n∧a'.defers=[]∧a'.tmps.getD rs undef=.bool true∧∀ s,s<b→s≠rs→a'.tmps.getD s undef=a.tmps.getD s undef)(hl:(l.all fun p=>decide (p.1<b) && p.1 != rs)=true):HasS n ((rs,.bool true) :: l) a':=by
 refine ⟨k.1,k.2.1,fun p hp=>?_⟩
 rcases List.mem_cons.1 hp with rfl|hp
 ·exact k.2.2.1
 ·have:=List.all_eq_true.1 hl p hp
  simp only[Bool.and_eq_true,decide_eq_true_eq,bne_iff_ne]at this
  exact (k.2.2.2 p.1 this.1 this.2).trans (h.at_ p hp)
end Go.Proofs.YtdianedehhecoaaGreatDoor.Co
/- Twins, beside leavers: its pieces. -/
namespace Go.Proofs.YtdianedehhecoaaGreatDoor.Co
variable [Loops]
open Go.Conc (G)
open Go.RowKit
noncomputable def x8:Code:=lpC (bkC (sq2 (sq1 (after 5 cTwi))))
noncomputable def y8:Code:=bkC (sq1 (sq2 x8))
noncomputable def ops8a:Array Oper:=opsOf (sq1 y8)
noncomputable def ops8b:Array Oper:=opsOf (sq1 (sq2 y8))
noncomputable def ops8c:Array Oper:=opsOf (ctC (sq2 (sq1 (after 3 y8))))
theorem c8_eq:cTwi=.seq (sq1 cTwi) (.seq (sq1 (after 1 cTwi)) (.seq (sq1 (after 2 cTwi)) (.seq (sq1 (after 3 cTwi)) (.seq (sq1 (after 4 cTwi)) (.seq (.seq (sq1 (sq1 (after 5 cTwi))) (.block 0 (.loop x8))) (after 6 cTwi)))))):=by kernel_rfl
theorem x8_eq:x8=.seq (sq1 x8) (.seq (.block 1 (.seq (.region 9 ops8a true) (.seq (.region 10 ops8b true) (.seq (sq1 (after 2 y8)) (.seq (.seq (sq1 (sq1 (after 3 y8))) (.cond (.tmp 98) (.region 13 ops8c true) .skip)) (after 4 y8)))))) (sq2 (sq2 x8))):=by kernel_rfl
theorem shp8a:Shp ops8a 72 11 3 17 18:=by
 refine ⟨fun q hq=>?_,(edgeB_iff _ _ _ _).1 (by kernel_rfl),(edgeB_iff _ _ _ _).1 (by kernel_rfl),(edgeB_iff _ _ _ _).1 (by kernel_rfl),(edgeB_iff _ _ _ _).1 (by kernel_rfl),(edgeB_iff _ _ _ _).1 (by kernel_rfl),(edgeB_iff _ _ _ _).1 (by kernel_rfl),(edgeB_iff _ _ _ _).1 (by kernel_rfl),chk_of (up:=fun i=>match i with|0=>10|1=>3|2=>3|3=>4|4=>10|5=>8|6=>7|7=>8|8=>9|_=>10) (by kernel_rfl),by kernel_rfl,by kernel_rfl⟩
 have hcs:q=0∨q=1∨q=2∨q=3∨q=4∨q=5∨q=6∨q=7∨q=8∨q=9∨q=10∨q=11:=by omega
 refine ⟨(ops8a[q]?).getD default,?_,?_,?_,?_⟩<;>rcases hcs with rfl|rfl|rfl|rfl|rfl|rfl|rfl|rfl|rfl|rfl|rfl|rfl<;>kernel_rfl
theorem shp8b:Shp ops8b 83 13 3 17 19:=by
 refine ⟨fun q hq=>?_,(edgeB_iff _ _ _ _).1 (by kernel_rfl),(edgeB_iff _ _ _ _).1 (by kernel_rfl),(edgeB_iff _ _ _ _).1 (by kernel_rfl),(edgeB_iff _ _ _ _).1 (by kernel_rfl),(edgeB_iff _ _ _ _).1 (by kernel_rfl),(edgeB_iff _ _ _ _).1 (by kernel_rfl),(edgeB_iff _ _ _ _).1 (by kernel_rfl),chk_of (up:=fun i=>match i with|0=>10|1=>3|2=>3|3=>4|4=>10|5=>8|6=>7|7=>8|8=>9|_=>10) (by kernel_rfl),by kernel_rfl,by kernel_rfl⟩
 have hcs:q=0∨q=1∨q=2∨q=3∨q=4∨q=5∨q=6∨q=7∨q=8∨q=9∨q=10∨q=11:=by omega
 refine ⟨(ops8b[q]?).getD default,?_,?_,?_,?_⟩<;>rcases hcs with rfl|rfl|rfl|rfl|rfl|rfl|rfl|rfl|rfl|rfl|rfl|rfl<;>kernel_rfl
theorem shp8c:Shp ops8c 99 15 4 17 20:=by
 refine ⟨fun q hq=>?_,(edgeB_iff _ _ _ _).1 (by kernel_rfl),(edgeB_iff _ _ _ _).1 (by kernel_rfl),(edgeB_iff _ _ _ _).1 (by kernel_rfl),(edgeB_iff _ _ _ _).1 (by kernel_rfl),(edgeB_iff _ _ _ _).1 (by kernel_rfl),(edgeB_iff _ _ _ _).1 (by kernel_rfl),(edgeB_iff _ _ _ _).1 (by kernel_rfl),chk_of (up:=fun i=>match i with|0=>10|1=>3|2=>3|3=>4|4=>10|5=>8|6=>7|7=>8|8=>9|_=>10) (by kernel_rfl),by kernel_rfl,by kernel_rfl⟩
 have hcs:q=0∨q=1∨q=2∨q=3∨q=4∨q=5∨q=6∨q=7∨q=8∨q=9∨q=10∨q=11:=by omega
 refine ⟨(ops8c[q]?).getD default,?_,?_,?_,?_⟩<;>rcases hcs with rfl|rfl|rfl|rfl|rfl|rfl|rfl|rfl|rfl|rfl|rfl|rfl<;>kernel_rfl
theorem s8 (v0 v1 v2 v3 v4:Value):HasS 250 [(0,v0),(1,v1),(2,v2),(3,v3),(4,v4)] { tmps:=#[v0,v1,v2,v3,v4]++Array.replicate (Tryz.f8.ntmps-(#[v0,v1,v2,v3,v4]:Array Value).size) undef,defers:=[] }:=⟨by kernel_rfl,rfl,fun p hp=>by
 simp only[List.mem_cons,List.not_mem_nil,or_false]at hp
 rcases hp with rfl|rfl|rfl|rfl|rfl<;>kernel_rfl⟩
section
variable {w:World} {a:Act} {seed players behind i:Int} {sa sb:Option Addr} {n1 cap n2 cap2 p q r:Nat} {R:Nat→World→Prop}
theorem w8_0 (h:HasS 250 [(0,.int .i64 seed),(1,.int .i64 players),(2,.int .i64 behind),(3,.slice sa n1 cap),(4,.slice sb n2 cap2)] a)(t:Nat→Question→Nat)(d:Nat):(sq1 cTwi).wp PP.s (fun e a' w'=>e=.normal∧HasS 250 [(0,.int .i64 seed),(1,.int .i64 players),(2,.int .i64 behind),(3,.slice sa n1 cap),(4,.slice sb n2 cap2)] a'∧like w' w) a (re w t d):=by
 obtain ⟨tm,df⟩:=a
 obtain rfl:df=[]:=h.defers
 have e:=tmps_lit (n:=250) (tm:=tm) h.size
 obtain ⟨f,hf⟩:∃ f:Nat→Value,f=fun i=>tm.getD i undef:=⟨_,rfl⟩
 have e0:f 0=.int .i64 seed:=by rw[hf];exact h.get 0 (.int .i64 seed) (by simp)
 have e1:f 1=.int .i64 players:=by rw[hf];exact h.get 1 (.int .i64 players) (by simp)
 have e2:f 2=.int .i64 behind:=by rw[hf];exact h.get 2 (.int .i64 behind) (by simp)
 have e3:f 3=.slice sa n1 cap:=by rw[hf];exact h.get 3 (.slice sa n1 cap) (by simp)
 have e4:f 4=.slice sb n2 cap2:=by rw[hf];exact h.get 4 (.slice sb n2 cap2) (by simp)
 rw[← hf,lit250]at e
 subst e
 clear hf h
 show Code.wp Pz.prog (sq1 cTwi) _ _ _
 simp only[sq1,sq2,after,lpC,bkC,x8,y8,cTwi,Tryz.f8,Option.getD,e0,e1,e2,e3,e4]
 clear e0 e1 e2 e3 e4
 go_wp2
 exact ⟨⟨rfl,rfl,fun p hp=>by
  simp only[List.mem_cons,List.not_mem_nil,or_false]at hp
  rcases hp with rfl|rfl|rfl|rfl|rfl<;>rfl⟩,rfl,rfl,rfl⟩
theorem w8_1 (h:HasS 250 [(0,.int .i64 seed),(1,.int .i64 players),(2,.int .i64 behind),(3,.slice sa n1 cap),(4,.slice sb n2 cap2)] a)(t:Nat→Question→Nat)(d:Nat)
  (hb:Calls Pz.prog 12 #[.int .i64 seed,.int .i64 players,.int .i64 behind] (re w t d) fun e w'=>∃ pb,e=.returned (.tuple #[.pointer (some ⟨pb,0,none⟩),.bool true])∧R pb w'):(sq1 (after 1 cTwi)).wp PP.s (fun e a' w'=>e=.normal∧∃ pb,HasS 250 [(0,.int .i64 seed),(1,.int .i64 players),(2,.int .i64 behind),(3,.slice sa n1 cap),(4,.slice sb n2 cap2),(11,pW pb),(12,.bool true)] a'∧R pb w') a (re w t d):=by
 obtain ⟨tm,df⟩:=a
 obtain rfl:df=[]:=h.defers
 have e:=tmps_lit (n:=250) (tm:=tm) h.size
 obtain ⟨f,hf⟩:∃ f:Nat→Value,f=fun i=>tm.getD i undef:=⟨_,rfl⟩
 have e0:f 0=.int .i64 seed:=by rw[hf];exact h.get 0 (.int .i64 seed) (by simp)
 have e1:f 1=.int .i64 players:=by rw[hf];exact h.get 1 (.int .i64 players) (by simp)
 have e2:f 2=.int .i64 behind:=by rw[hf];exact h.get 2 (.int .i64 behind) (by simp)
 have e3:f 3=.slice sa n1 cap:=by rw[hf];exact h.get 3 (.slice sa n1 cap) (by simp)
 have e4:f 4=.slice sb n2 cap2:=by rw[hf];exact h.get 4 (.slice sb n2 cap2) (by simp)
 rw[← hf,lit250]at e
 subst e
 have HB:=(show Hid _ from hb)
 clear hf h hb
 show Code.wp Pz.prog (sq1 (after 1 cTwi)) _ _ _
 simp only[sq1,sq2,after,lpC,bkC,x8,y8,cTwi,Tryz.f8,Option.getD,e0,e1,e2,e3,e4]
 clear e0 e1 e2 e3 e4
 go_wp2_with (go_at_call 12;refine Calls.mono HB.out ?_;rintro e w2 ⟨pb,rfl,hq⟩)
 exact ⟨pb,⟨rfl,rfl,fun p hp=>by
  simp only[List.mem_cons,List.not_mem_nil,or_false]at hp
  rcases hp with rfl|rfl|rfl|rfl|rfl|rfl|rfl<;>rfl⟩,hq⟩
theorem w8_2 (h:HasS 250 [(0,.int .i64 seed),(1,.int .i64 players),(2,.int .i64 behind),(3,.slice sa n1 cap),(4,.slice sb n2 cap2),(11,pW p),(12,.bool true)] a){b1:Int}(hb1:IntKind.i64.wrap (behind+1)=b1)(t:Nat→Question→Nat)(d:Nat)
  (hb:Calls Pz.prog 12 #[.int .i64 seed,.int .i64 players,.int .i64 b1] (re w t d) fun e w'=>∃ pb,e=.returned (.tuple #[.pointer (some ⟨pb,0,none⟩),.bool true])∧R pb w'):(sq1 (after 2 cTwi)).wp PP.s (fun e a' w'=>e=.normal∧∃ pb,HasS 250 [(0,.int .i64 seed),(1,.int .i64 players),(2,.int .i64 behind),(3,.slice sa n1 cap),(4,.slice sb n2 cap2),(11,pW p),(12,.bool true),(13,pW pb),(14,.bool true)] a'∧R pb w') a (re w t d):=by
 obtain ⟨tm,df⟩:=a
 obtain rfl:df=[]:=h.defers
 have e:=tmps_lit (n:=250) (tm:=tm) h.size
 obtain ⟨f,hf⟩:∃ f:Nat→Value,f=fun i=>tm.getD i undef:=⟨_,rfl⟩
 have e0:f 0=.int .i64 seed:=by rw[hf];exact h.get 0 (.int .i64 seed) (by simp)
 have e1:f 1=.int .i64 players:=by rw[hf];exact h.get 1 (.int .i64 players) (by simp)
 have e2:f 2=.int .i64 behind:=by rw[hf];exact h.get 2 (.int .i64 behind) (by simp)
 have e3:f 3=.slice sa n1 cap:=by rw[hf];exact h.get 3 (.slice sa n1 cap) (by simp)
 have e4:f 4=.slice sb n2 cap2:=by rw[hf];exact h.get 4 (.slice sb n2 cap2) (by simp)
 have e11:f 11=pW p:=by rw[hf];exact h.get 11 (pW p) (by simp)
 have e12:f 12=.bool true:=by rw[hf];exact h.get 12 (.bool true) (by simp)
 rw[← hf,lit250]at e
 subst e
 have HB:=(show Hid _ from hb)
 clear hf h hb
 show Code.wp Pz.prog (sq1 (after 2 cTwi)) _ _ _
 simp only[sq1,sq2,after,lpC,bkC,x8,y8,cTwi,Tryz.f8,Option.getD,e0,e1,e2,e3,e4,e11,e12]
 clear e0 e1 e2 e3 e4 e11 e12
 go_wp2_with (go_at_call 12;refine Calls.mono HB.out ?_;rintro e w2 ⟨pb,rfl,hq⟩)
 exact ⟨pb,⟨rfl,rfl,fun p hp=>by
  simp only[List.mem_cons,List.not_mem_nil,or_false]at hp
  rcases hp with rfl|rfl|rfl|rfl|rfl|rfl|rfl|rfl|rfl<;>rfl⟩,hq⟩
theorem w8_3 (h:HasS 250 [(0,.int .i64 seed),(1,.int .i64 players),(2,.int .i64 behind),(3,.slice sa n1 cap),(4,.slice sb n2 cap2),(11,pW p),(12,.bool true),(13,pW q),(14,.bool true)] a){b1:Int}(hb1:IntKind.i64.wrap (players+1)=b1)(t:Nat→Question→Nat)(d:Nat)
  (hb:Calls Pz.prog 12 #[.int .i64 seed,.int .i64 b1,.int .i64 0] (re w t d) fun e w'=>∃ pb,e=.returned (.tuple #[.pointer (some ⟨pb,0,none⟩),.bool true])∧R pb w'):(sq1 (after 3 cTwi)).wp PP.s (fun e a' w'=>e=.normal∧∃ pb,HasS 250 [(0,.int .i64 seed),(1,.int .i64 players),(2,.int .i64 behind),(3,.slice sa n1 cap),(4,.slice sb n2 cap2),(11,pW p),(12,.bool true),(13,pW q),(14,.bool true),(15,pW pb),(16,.bool true)] a'∧R pb w') a (re w t d):=by
 obtain ⟨tm,df⟩:=a
 obtain rfl:df=[]:=h.defers
 have e:=tmps_lit (n:=250) (tm:=tm) h.size
 obtain ⟨f,hf⟩:∃ f:Nat→Value,f=fun i=>tm.getD i undef:=⟨_,rfl⟩
 have e0:f 0=.int .i64 seed:=by rw[hf];exact h.get 0 (.int .i64 seed) (by simp)
 have e1:f 1=.int .i64 players:=by rw[hf];exact h.get 1 (.int .i64 players) (by simp)
 have e2:f 2=.int .i64 behind:=by rw[hf];exact h.get 2 (.int .i64 behind) (by simp)
 have e3:f 3=.slice sa n1 cap:=by rw[hf];exact h.get 3 (.slice sa n1 cap) (by simp)
 have e4:f 4=.slice sb n2 cap2:=by rw[hf];exact h.get 4 (.slice sb n2 cap2) (by simp)
 have e11:f 11=pW p:=by rw[hf];exact h.get 11 (pW p) (by simp)
 have e12:f 12=.bool true:=by rw[hf];exact h.get 12 (.bool true) (by simp)
 have e13:f 13=pW q:=by rw[hf];exact h.get 13 (pW q) (by simp)
 have e14:f 14=.bool true:=by rw[hf];exact h.get 14 (.bool true) (by simp)
 rw[← hf,lit250]at e
 subst e
 have HB:=(show Hid _ from hb)
 clear hf h hb
 show Code.wp Pz.prog (sq1 (after 3 cTwi)) _ _ _
 simp only[sq1,sq2,after,lpC,bkC,x8,y8,cTwi,Tryz.f8,Option.getD,e0,e1,e2,e3,e4,e11,e12,e13,e14]
 clear e0 e1 e2 e3 e4 e11 e12 e13 e14
 go_wp2_with (go_at_call 12;refine Calls.mono HB.out ?_;rintro e w2 ⟨pb,rfl,hq⟩)
 exact ⟨pb,⟨rfl,rfl,fun p hp=>by
  simp only[List.mem_cons,List.not_mem_nil,or_false]at hp
  rcases hp with rfl|rfl|rfl|rfl|rfl|rfl|rfl|rfl|rfl|rfl|rfl<;>rfl⟩,hq⟩
theorem w8_4 (h:HasS 250 [(0,.int .i64 seed),(1,.int .i64 players),(2,.int .i64 behind),(3,.slice sa n1 cap),(4,.slice sb n2 cap2),(11,pW p),(12,.bool true),(13,pW q),(14,.bool true),(15,pW r),(16,.bool true)] a)(t:Nat→Question→Nat)(d:Nat):(sq1 (after 4 cTwi)).wp PP.s (fun e a' w'=>e=.normal∧HasS 250 [(3,.slice sa n1 cap),(4,.slice sb n2 cap2),(11,pW p),(13,pW q),(15,pW r)] a'∧like w' w) a (re w t d):=by
 obtain ⟨tm,df⟩:=a
 obtain rfl:df=[]:=h.defers
 have e:=tmps_lit (n:=250) (tm:=tm) h.size
 obtain ⟨f,hf⟩:∃ f:Nat→Value,f=fun i=>tm.getD i undef:=⟨_,rfl⟩
 have e0:f 0=.int .i64 seed:=by rw[hf];exact h.get 0 (.int .i64 seed) (by simp)
 have e1:f 1=.int .i64 players:=by rw[hf];exact h.get 1 (.int .i64 players) (by simp)
 have e2:f 2=.int .i64 behind:=by rw[hf];exact h.get 2 (.int .i64 behind) (by simp)
 have e3:f 3=.slice sa n1 cap:=by rw[hf];exact h.get 3 (.slice sa n1 cap) (by simp)
 have e4:f 4=.slice sb n2 cap2:=by rw[hf];exact h.get 4 (.slice sb n2 cap2) (by simp)
 have e11:f 11=pW p:=by rw[hf];exact h.get 11 (pW p) (by simp)
 have e12:f 12=.bool true:=by rw[hf];exact h.get 12 (.bool true) (by simp)
 have e13:f 13=pW q:=by rw[hf];exact h.get 13 (pW q) (by simp)
 have e14:f 14=.bool true:=by rw[hf];exact h.get 14 (.bool true) (by simp)
 have e15:f 15=pW r:=by rw[hf];exact h.get 15 (pW r) (by simp)
 have e16:f 16=.bool true:=by rw[hf];exact h.get 16 (.bool true) (by simp)
 rw[← hf,lit250]at e
 subst e
 clear hf h
 show Code.wp Pz.prog (sq1 (after 4 cTwi)) _ _ _
 simp only[sq1,sq2,after,lpC,bkC,x8,y8,cTwi,Tryz.f8,Option.getD,e0,e1,e2,e3,e4,e11,e12,e13,e14,e15,e16]
 clear e0 e1 e2 e3 e4 e11 e12 e13 e14 e15 e16
 go_wp2
 exact ⟨⟨rfl,rfl,fun p hp=>by
  simp only[List.mem_cons,List.not_mem_nil,or_false]at hp
  rcases hp with rfl|rfl|rfl|rfl|rfl<;>rfl⟩,rfl,rfl,rfl⟩
theorem w8_5 (h:HasS 250 [(3,.slice sa n1 cap),(4,.slice sb n2 cap2),(11,pW p),(13,pW q),(15,pW r)] a)(t:Nat→Question→Nat)(d:Nat):(sq1 (sq1 (after 5 cTwi))).wp PP.s (fun e a' w'=>e=.normal∧HasS 250 [(3,.slice sa n1 cap),(4,.slice sb n2 cap2),(11,pW p),(13,pW q),(15,pW r),(17,.int .i64 0)] a'∧like w' w) a (re w t d):=by
 obtain ⟨tm,df⟩:=a
 obtain rfl:df=[]:=h.defers
 have e:=tmps_lit (n:=250) (tm:=tm) h.size
 obtain ⟨f,hf⟩:∃ f:Nat→Value,f=fun i=>tm.getD i undef:=⟨_,rfl⟩
 have e3:f 3=.slice sa n1 cap:=by rw[hf];exact h.get 3 (.slice sa n1 cap) (by simp)
 have e4:f 4=.slice sb n2 cap2:=by rw[hf];exact h.get 4 (.slice sb n2 cap2) (by simp)
 have e11:f 11=pW p:=by rw[hf];exact h.get 11 (pW p) (by simp)
 have e13:f 13=pW q:=by rw[hf];exact h.get 13 (pW q) (by simp)
 have e15:f 15=pW r:=by rw[hf];exact h.get 15 (pW r) (by simp)
 rw[← hf,lit250]at e
 subst e
 clear hf h
 show Code.wp Pz.prog (sq1 (sq1 (after 5 cTwi))) _ _ _
 simp only[sq1,sq2,after,lpC,bkC,x8,y8,cTwi,Tryz.f8,Option.getD,e3,e4,e11,e13,e15]
 clear e3 e4 e11 e13 e15
 go_wp2
 exact ⟨⟨rfl,rfl,fun p hp=>by
  simp only[List.mem_cons,List.not_mem_nil,or_false]at hp
  rcases hp with rfl|rfl|rfl|rfl|rfl|rfl<;>rfl⟩,rfl,rfl,rfl⟩
theorem w8_6 (h:HasS 250 [(3,.slice sa n1 cap),(4,.slice sb n2 cap2),(11,pW p),(13,pW q),(15,pW r),(17,.int .i64 i)] a)(i0:0≤i)(hi:i+1<n1)(hn:n1≤140737488351232)(t:Nat→Question→Nat)(d:Nat):(sq1 x8).wp PP.s (fun e a' w'=>e=.normal∧HasS 250 [(3,.slice sa n1 cap),(4,.slice sb n2 cap2),(11,pW p),(13,pW q),(15,pW r),(17,.int .i64 i)] a'∧like w' w) a (re w t d):=by
 obtain ⟨tm,df⟩:=a
 obtain rfl:df=[]:=h.defers
 have e:=tmps_lit (n:=250) (tm:=tm) h.size
 obtain ⟨f,hf⟩:∃ f:Nat→Value,f=fun i=>tm.getD i undef:=⟨_,rfl⟩
 have e3:f 3=.slice sa n1 cap:=by rw[hf];exact h.get 3 (.slice sa n1 cap) (by simp)
 have e4:f 4=.slice sb n2 cap2:=by rw[hf];exact h.get 4 (.slice sb n2 cap2) (by simp)
 have e11:f 11=pW p:=by rw[hf];exact h.get 11 (pW p) (by simp)
 have e13:f 13=pW q:=by rw[hf];exact h.get 13 (pW q) (by simp)
 have e15:f 15=pW r:=by rw[hf];exact h.get 15 (pW r) (by simp)
 have e17:f 17=.int .i64 i:=by rw[hf];exact h.get 17 (.int .i64 i) (by simp)
 rw[← hf,lit250]at e
 subst e
 have hw1:IntKind.i64.wrap (i+1)=i+1:=by simp[IntKind.wrap,IntKind.bits,IntKind.signed];omega
 clear hf h
 show Code.wp Pz.prog (sq1 x8) _ _ _
 simp only[sq1,sq2,after,lpC,bkC,x8,y8,cTwi,Tryz.f8,Option.getD,e3,e4,e11,e13,e15,e17]
 clear e3 e4 e11 e13 e15 e17
 go_wp2
 exact ⟨⟨rfl,rfl,fun p hp=>by
  simp only[List.mem_cons,List.not_mem_nil,or_false]at hp
  rcases hp with rfl|rfl|rfl|rfl|rfl|rfl<;>rfl⟩,rfl,rfl,rfl⟩
theorem w8_7 (h:HasS 250 [(3,.slice sa n1 cap),(4,.slice sb n2 cap2),(11,pW p),(13,pW q),(15,pW r),(17,.int .i64 i)] a)(i0:0≤i)(hi:¬ i+1<n1)(hi2:i≤150000000000000)(t:Nat→Question→Nat)(d:Nat):(sq1 x8).wp PP.s (fun e a' w'=>e=.exit 0∧HasS 250 [(3,.slice sa n1 cap),(4,.slice sb n2 cap2),(11,pW p),(13,pW q),(15,pW r),(17,.int .i64 i)] a'∧like w' w) a (re w t d):=by
 obtain ⟨tm,df⟩:=a
 obtain rfl:df=[]:=h.defers
 have e:=tmps_lit (n:=250) (tm:=tm) h.size
 obtain ⟨f,hf⟩:∃ f:Nat→Value,f=fun i=>tm.getD i undef:=⟨_,rfl⟩
 have e3:f 3=.slice sa n1 cap:=by rw[hf];exact h.get 3 (.slice sa n1 cap) (by simp)
 have e4:f 4=.slice sb n2 cap2:=by rw[hf];exact h.get 4 (.slice sb n2 cap2) (by simp)
 have e11:f 11=pW p:=by rw[hf];exact h.get 11 (pW p) (by simp)
 have e13:f 13=pW q:=by rw[hf];exact h.get 13 (pW q) (by simp)
 have e15:f 15=pW r:=by rw[hf];exact h.get 15 (pW r) (by simp)
 have e17:f 17=.int .i64 i:=by rw[hf];exact h.get 17 (.int .i64 i) (by simp)
 rw[← hf,lit250]at e
 subst e
 have hw1:IntKind.i64.wrap (i+1)=i+1:=by simp[IntKind.wrap,IntKind.bits,IntKind.signed];omega
 clear hf h
 show Code.wp Pz.prog (sq1 x8) _ _ _
 simp only[sq1,sq2,after,lpC,bkC,x8,y8,cTwi,Tryz.f8,Option.getD,e3,e4,e11,e13,e15,e17]
 clear e3 e4 e11 e13 e15 e17
 go_wp2
 exact ⟨⟨rfl,rfl,fun p hp=>by
  simp only[List.mem_cons,List.not_mem_nil,or_false]at hp
  rcases hp with rfl|rfl|rfl|rfl|rfl|rfl<;>rfl⟩,rfl,rfl,rfl⟩
theorem w8_8 (h:HasS 250 [(19,.bool true),(18,.bool true),(3,.slice sa n1 cap),(4,.slice sb n2 cap2),(11,pW p),(13,pW q),(15,pW r),(17,.int .i64 i)] a)(t:Nat→Question→Nat)(d:Nat):(sq1 (after 2 y8)).wp PP.s (fun e a' w'=>e=.normal∧HasS 250 [(20,.bool true),(19,.bool true),(18,.bool true),(3,.slice sa n1 cap),(4,.slice sb n2 cap2),(11,pW p),(13,pW q),(15,pW r),(17,.int .i64 i)] a'∧like w' w) a (re w t d):=by
 obtain ⟨tm,df⟩:=a
 obtain rfl:df=[]:=h.defers
 have e:=tmps_lit (n:=250) (tm:=tm) h.size
 obtain ⟨f,hf⟩:∃ f:Nat→Value,f=fun i=>tm.getD i undef:=⟨_,rfl⟩
 have e19:f 19=.bool true:=by rw[hf];exact h.get 19 (.bool true) (by simp)
 have e18:f 18=.bool true:=by rw[hf];exact h.get 18 (.bool true) (by simp)
 have e3:f 3=.slice sa n1 cap:=by rw[hf];exact h.get 3 (.slice sa n1 cap) (by simp)
 have e4:f 4=.slice sb n2 cap2:=by rw[hf];exact h.get 4 (.slice sb n2 cap2) (by simp)
 have e11:f 11=pW p:=by rw[hf];exact h.get 11 (pW p) (by simp)
 have e13:f 13=pW q:=by rw[hf];exact h.get 13 (pW q) (by simp)
 have e15:f 15=pW r:=by rw[hf];exact h.get 15 (pW r) (by simp)
 have e17:f 17=.int .i64 i:=by rw[hf];exact h.get 17 (.int .i64 i) (by simp)
 rw[← hf,lit250]at e
 subst e
 clear hf h
 show Code.wp Pz.prog (sq1 (after 2 y8)) _ _ _
 simp only[sq1,sq2,after,lpC,bkC,x8,y8,cTwi,Tryz.f8,Option.getD,e19,e18,e3,e4,e11,e13,e15,e17]
 clear e19 e18 e3 e4 e11 e13 e15 e17
 go_wp2
 exact ⟨⟨rfl,rfl,fun p hp=>by
  simp only[List.mem_cons,List.not_mem_nil,or_false]at hp
  rcases hp with rfl|rfl|rfl|rfl|rfl|rfl|rfl|rfl|rfl<;>rfl⟩,rfl,rfl,rfl⟩
theorem w8_9 (h:HasS 250 [(20,.bool true),(19,.bool true),(18,.bool true),(3,.slice sa n1 cap),(4,.slice sb n2 cap2),(11,pW p),(13,pW q),(15,pW r),(17,.int .i64 i)] a)(i0:0≤i)(hi:i+1<n2)(hi2:i≤150000000000000)(t:Nat→Question→Nat)(d:Nat):(sq1 (sq1 (after 3 y8))).wp PP.s (fun e a' w'=>e=.normal∧HasS 250 [(98,.bool true),(20,.bool true),(19,.bool true),(18,.bool true),(3,.slice sa n1 cap),(4,.slice sb n2 cap2),(11,pW p),(13,pW q),(15,pW r),(17,.int .i64 i)] a'∧like w' w) a (re w t d):=by
 obtain ⟨tm,df⟩:=a
 obtain rfl:df=[]:=h.defers
 have e:=tmps_lit (n:=250) (tm:=tm) h.size
 obtain ⟨f,hf⟩:∃ f:Nat→Value,f=fun i=>tm.getD i undef:=⟨_,rfl⟩
 have e20:f 20=.bool true:=by rw[hf];exact h.get 20 (.bool true) (by simp)
 have e19:f 19=.bool true:=by rw[hf];exact h.get 19 (.bool true) (by simp)
 have e18:f 18=.bool true:=by rw[hf];exact h.get 18 (.bool true) (by simp)
 have e3:f 3=.slice sa n1 cap:=by rw[hf];exact h.get 3 (.slice sa n1 cap) (by simp)
 have e4:f 4=.slice sb n2 cap2:=by rw[hf];exact h.get 4 (.slice sb n2 cap2) (by simp)
 have e11:f 11=pW p:=by rw[hf];exact h.get 11 (pW p) (by simp)
 have e13:f 13=pW q:=by rw[hf];exact h.get 13 (pW q) (by simp)
 have e15:f 15=pW r:=by rw[hf];exact h.get 15 (pW r) (by simp)
 have e17:f 17=.int .i64 i:=by rw[hf];exact h.get 17 (.int .i64 i) (by simp)
 rw[← hf,lit250]at e
 subst e
 have hw1:IntKind.i64.wrap (i+1)=i+1:=by simp[IntKind.wrap,IntKind.bits,IntKind.signed];omega
 clear hf h
 show Code.wp Pz.prog (sq1 (sq1 (after 3 y8))) _ _ _
 simp only[sq1,sq2,after,lpC,bkC,x8,y8,cTwi,Tryz.f8,Option.getD,e20,e19,e18,e3,e4,e11,e13,e15,e17]
 clear e20 e19 e18 e3 e4 e11 e13 e15 e17
 go_wp2
 exact ⟨⟨rfl,rfl,fun p hp=>by
  simp only[List.mem_cons,List.not_mem_nil,or_false]at hp
  rcases hp with rfl|rfl|rfl|rfl|rfl|rfl|rfl|rfl|rfl|rfl<;>rfl⟩,rfl,rfl,rfl⟩
theorem w8_10 (h:HasS 250 [(20,.bool true),(19,.bool true),(18,.bool true),(3,.slice sa n1 cap),(4,.slice sb n2 cap2),(11,pW p),(13,pW q),(15,pW r),(17,.int .i64 i)] a)(i0:0≤i)(hi:¬ i+1<n2)(hi2:i≤150000000000000)(t:Nat→Question→Nat)(d:Nat):(sq1 (sq1 (after 3 y8))).wp PP.s (fun e a' w'=>e=.normal∧HasS 250 [(98,.bool false),(20,.bool true),(19,.bool true),(18,.bool true),(3,.slice sa n1 cap),(4,.slice sb n2 cap2),(11,pW p),(13,pW q),(15,pW r),(17,.int .i64 i)] a'∧like w' w) a (re w t d):=by
 obtain ⟨tm,df⟩:=a
 obtain rfl:df=[]:=h.defers
 have e:=tmps_lit (n:=250) (tm:=tm) h.size
 obtain ⟨f,hf⟩:∃ f:Nat→Value,f=fun i=>tm.getD i undef:=⟨_,rfl⟩
 have e20:f 20=.bool true:=by rw[hf];exact h.get 20 (.bool true) (by simp)
 have e19:f 19=.bool true:=by rw[hf];exact h.get 19 (.bool true) (by simp)
 have e18:f 18=.bool true:=by rw[hf];exact h.get 18 (.bool true) (by simp)
 have e3:f 3=.slice sa n1 cap:=by rw[hf];exact h.get 3 (.slice sa n1 cap) (by simp)
 have e4:f 4=.slice sb n2 cap2:=by rw[hf];exact h.get 4 (.slice sb n2 cap2) (by simp)
 have e11:f 11=pW p:=by rw[hf];exact h.get 11 (pW p) (by simp)
 have e13:f 13=pW q:=by rw[hf];exact h.get 13 (pW q) (by simp)
 have e15:f 15=pW r:=by rw[hf];exact h.get 15 (pW r) (by simp)
 have e17:f 17=.int .i64 i:=by rw[hf];exact h.get 17 (.int .i64 i) (by simp)
 rw[← hf,lit250]at e
 subst e
 have hw1:IntKind.i64.wrap (i+1)=i+1:=by simp[IntKind.wrap,IntKind.bits,IntKind.signed];omega
 clear hf h
 show Code.wp Pz.prog (sq1 (sq1 (after 3 y8))) _ _ _
 simp only[sq1,sq2,after,lpC,bkC,x8,y8,cTwi,Tryz.f8,Option.getD,e20,e19,e18,e3,e4,e11,e13,e15,e17]
 clear e20 e19 e18 e3 e4 e11 e13 e15 e17
 go_wp2
 exact ⟨⟨rfl,rfl,fun p hp=>by
  simp only[List.mem_cons,List.not_mem_nil,or_false]at hp
  rcases hp with rfl|rfl|rfl|rfl|rfl|rfl|rfl|rfl|rfl|rfl<;>rfl⟩,rfl,rfl,rfl⟩
theorem w8_11 (h:HasS 250 [(20,.bool true),(19,.bool true),(18,.bool true),(3,.slice sa n1 cap),(4,.slice sb n2 cap2),(11,pW p),(13,pW q),(15,pW r),(17,.int .i64 i)] a)(t:Nat→Question→Nat)(d:Nat):(after 4 y8).wp PP.s (fun e a' w'=>e=.normal∧HasS 250 [(3,.slice sa n1 cap),(4,.slice sb n2 cap2),(11,pW p),(13,pW q),(15,pW r),(17,.int .i64 i)] a'∧like w' w) a (re w t d):=by
 obtain ⟨tm,df⟩:=a
 obtain rfl:df=[]:=h.defers
 have e:=tmps_lit (n:=250) (tm:=tm) h.size
 obtain ⟨f,hf⟩:∃ f:Nat→Value,f=fun i=>tm.getD i undef:=⟨_,rfl⟩
 have e20:f 20=.bool true:=by rw[hf];exact h.get 20 (.bool true) (by simp)
 have e19:f 19=.bool true:=by rw[hf];exact h.get 19 (.bool true) (by simp)
 have e18:f 18=.bool true:=by rw[hf];exact h.get 18 (.bool true) (by simp)
 have e3:f 3=.slice sa n1 cap:=by rw[hf];exact h.get 3 (.slice sa n1 cap) (by simp)
 have e4:f 4=.slice sb n2 cap2:=by rw[hf];exact h.get 4 (.slice sb n2 cap2) (by simp)
 have e11:f 11=pW p:=by rw[hf];exact h.get 11 (pW p) (by simp)
 have e13:f 13=pW q:=by rw[hf];exact h.get 13 (pW q) (by simp)
 have e15:f 15=pW r:=by rw[hf];exact h.get 15 (pW r) (by simp)
 have e17:f 17=.int .i64 i:=by rw[hf];exact h.get 17 (.int .i64 i) (by simp)
 rw[← hf,lit250]at e
 subst e
 clear hf h
 show Code.wp Pz.prog (after 4 y8) _ _ _
 simp only[sq1,sq2,after,lpC,bkC,x8,y8,cTwi,Tryz.f8,Option.getD,e20,e19,e18,e3,e4,e11,e13,e15,e17]
 clear e20 e19 e18 e3 e4 e11 e13 e15 e17
 go_wp2
 exact ⟨⟨rfl,rfl,fun p hp=>by
  simp only[List.mem_cons,List.not_mem_nil,or_false]at hp
  rcases hp with rfl|rfl|rfl|rfl|rfl|rfl<;>rfl⟩,rfl,rfl,rfl⟩
theorem w8_12 (h:HasS 250 [(3,.slice sa n1 cap),(4,.slice sb n2 cap2),(11,pW p),(13,pW q),(15,pW r),(17,.int .i64 i)] a)(i0:0≤i)(hi2:i≤150000000000000)(t:Nat→Question→Nat)(d:Nat):(sq2 (sq2 x8)).wp PP.s (fun e a' w'=>e=.normal∧HasS 250 [(3,.slice sa n1 cap),(4,.slice sb n2 cap2),(11,pW p),(13,pW q),(15,pW r),(17,.int .i64 (i+2))] a'∧like w' w) a (re w t d):=by
 obtain ⟨tm,df⟩:=a
 obtain rfl:df=[]:=h.defers
 have e:=tmps_lit (n:=250) (tm:=tm) h.size
 obtain ⟨f,hf⟩:∃ f:Nat→Value,f=fun i=>tm.getD i undef:=⟨_,rfl⟩
 have e3:f 3=.slice sa n1 cap:=by rw[hf];exact h.get 3 (.slice sa n1 cap) (by simp)
 have e4:f 4=.slice sb n2 cap2:=by rw[hf];exact h.get 4 (.slice sb n2 cap2) (by simp)
 have e11:f 11=pW p:=by rw[hf];exact h.get 11 (pW p) (by simp)
 have e13:f 13=pW q:=by rw[hf];exact h.get 13 (pW q) (by simp)
 have e15:f 15=pW r:=by rw[hf];exact h.get 15 (pW r) (by simp)
 have e17:f 17=.int .i64 i:=by rw[hf];exact h.get 17 (.int .i64 i) (by simp)
 rw[← hf,lit250]at e
 subst e
 have hw1:IntKind.i64.wrap (i+2)=i+2:=by simp[IntKind.wrap,IntKind.bits,IntKind.signed];omega
 clear hf h
 show Code.wp Pz.prog (sq2 (sq2 x8)) _ _ _
 simp only[sq1,sq2,after,lpC,bkC,x8,y8,cTwi,Tryz.f8,Option.getD,e3,e4,e11,e13,e15,e17]
 clear e3 e4 e11 e13 e15 e17
 go_wp2
 exact ⟨⟨rfl,rfl,fun p hp=>by
  simp only[List.mem_cons,List.not_mem_nil,or_false]at hp
  rcases hp with rfl|rfl|rfl|rfl|rfl|rfl<;>rfl⟩,rfl,rfl,rfl⟩
end
end Go.Proofs.YtdianedehhecoaaGreatDoor.Co
/- Twins, beside leavers: the whole. -/
namespace Go.Proofs.YtdianedehhecoaaGreatDoor.Co
variable [Loops]
open Go.Conc (G)
open Go.RowKit
theorem Scr.two {w:World}{N:Nat}{sa:Option Addr}{cap i:Nat}{L:List Int}(h:Scr w N (.slice sa L.length cap) L)(hi:i+1<L.length):∃ g o,sa=some ⟨g,o,none⟩∧w.cell? ⟨g,o+i,none⟩=some (.int .i64 (L.getD i 0))∧w.cell? ⟨g,o+(i+1),none⟩=some (.int .i64 (L.getD (i+1) 0))∧(-9223372036854775808≤L.getD i 0∧L.getD i 0≤9223372036854775807)∧-9223372036854775808≤L.getD (i+1) 0∧L.getD (i+1) 0≤9223372036854775807:=by
 obtain ⟨sa',cap',e,hk⟩:=h
 injection e with e1 e2 e3
 subst e1
 obtain ⟨g,o,h1,h2,h3,h5⟩:=hk i (by omega)
 obtain ⟨g',o',h1',h2',h3',h5'⟩:=hk (i+1) hi
 rw[h1]at h1'
 injection h1' with h1'
 injection h1' with hg ho
 subst hg
 subst ho
 exact ⟨g,o,h1,h3,h3',h5,h5'⟩
theorem wb_skip {Q:Exit→Act→World→Prop}{a:Act}{w:World}(h:∀ w',like w' w→Q .normal a w'):WB PP .skip Q a w:=by
 refine (wb_piece (K:=fun a'=>a'=a) fun t d=>?_).mono ?_
 ·show Code.wp Pz.prog .skip _ _ _
  go_wp2
  exact ⟨rfl,rfl,rfl⟩
 ·rintro e a' w' ⟨rfl,rfl,l⟩
  exact h w' l
section
variable {W w:World} {N p q r P R:Nat} {sd:Int} {V V':Vw} {L K:List Int} {sa sb:Option Addr} {cap cap2 i:Nat} {a:Act}
theorem cond8 (hT:Tri W N ⟨p,sd,P,V⟩ ⟨q,sd,P,V⟩ ⟨r,sd,R,V'⟩ w)(hN:N≤W.heap.size)(h4:4<N)(hd:W.cell? ⟨4,15,none⟩=some (.int .u8 4))(hS:Scr W N (.slice sb K.length cap2) K)(hK:K.length≤140737488351232)(p1:1≤R)(hi2:i≤150000000000000)(hA:HasS 250 [(20,.bool true),(19,.bool true),(18,.bool true),(3,.slice sa L.length cap),(4,.slice sb K.length cap2),(11,pW p),(13,pW q),(15,pW r),(17,.int .i64 (i:Nat))] a) :
  WB PP (.seq (sq1 (sq1 (after 3 y8))) (.cond (.tmp 98) (.region 13 ops8c true) .skip)) (fun e a' w'=>e=.normal∧HasS 250 [(20,.bool true),(19,.bool true),(18,.bool true),(3,.slice sa L.length cap),(4,.slice sb K.length cap2),(11,pW p),(13,pW q),(15,pW r),(17,.int .i64 (i:Nat))] a'∧∃ V',Tri W N ⟨p,sd,P,V⟩ ⟨q,sd,P,V⟩ ⟨r,sd,R,V'⟩ w') a w:=by
 by_cases hlt:i+1<K.length
 ·refine WB.seq ((wb_piece (w8_9 hA (by omega) (by omega) (by omega))).mono ?_)
  rintro e a1 w1 ⟨rfl,hA1,l1⟩
  have hT1:=hT.like l1
  refine WB.cond (t:=true) (hA1.get 98 (.bool true) (by simp)) ?_
  rw[if_pos rfl]
  obtain ⟨g,o,e,c1,c2,k1,k2⟩:=(hS.on fun k hk=>hT1.1.block k (by omega) (by omega)).two hlt
  subst e
  refine (shp8c.region (nn:=250) (R:=fun w'=>∃ V',Tri W N ⟨p,sd,P,V⟩ ⟨q,sd,P,V⟩ ⟨r,sd,R,V'⟩ w') (by omega) (by omega) (by omega) hA1.size hA1.defers (hA1.get 15 (pW r) (by simp)) (hA1.get 4 (.slice (some ⟨g,o,none⟩) K.length cap2) (by simp)) (hA1.get 17 (.int .i64 (i:Nat)) (by simp)) hlt hK c1 c2 (fun w w' ⟨V',h⟩ l=>⟨V',h.like l⟩) fun w' l=>((hT1.like l).turn.move hN h4 hd p1 _ _ k1.1 k1.2 k2.1 k2.2).mono fun v w2 ⟨hv,h⟩=>⟨hv,_,h.turn⟩).mono ?_
  rintro e a2 w2 ⟨rfl,hk2,hT2⟩
  refine ⟨rfl,?_,hT2⟩
  have hA2:=(show HasS 250 [(19,.bool true),(18,.bool true),(3,.slice sa L.length cap),(4,.slice (some ⟨g,o,none⟩) K.length cap2),(11,pW p),(13,pW q),(15,pW r),(17,.int .i64 (i:Nat))] a1 from ⟨hA1.size,hA1.defers,fun p hp=>hA1.at_ p (List.mem_cons_of_mem _ (List.mem_cons_of_mem _ hp))⟩).keep hk2 (by simp)
  exact hA2
 ·refine WB.seq ((wb_piece (w8_10 hA (by omega) (by omega) (by omega))).mono ?_)
  rintro e a1 w1 ⟨rfl,hA1,l1⟩
  refine WB.cond (t:=false) (hA1.get 98 (.bool false) (by simp)) ?_
  rw[if_neg (by simp)]
  refine wb_skip fun w2 l2=>⟨rfl,⟨hA1.size,hA1.defers,fun p hp=>hA1.at_ p (List.mem_cons_of_mem _ hp)⟩,V',(hT.like l1).like l2⟩
theorem round8 (hT:Tri W N ⟨p,sd,P,V⟩ ⟨q,sd,P,V⟩ ⟨r,sd,R,V'⟩ w)(hN:N≤W.heap.size)(h4:4<N)(hd:W.cell? ⟨4,15,none⟩=some (.int .u8 4))(hS1:Scr W N (.slice sa L.length cap) L)(hL:L.length≤140737488351232)(hS:Scr W N (.slice sb K.length cap2) K)(hK:K.length≤140737488351232)(p1:1≤P)(p2:1≤R)(hlt:i+1<L.length)(hA:HasS 250 [(3,.slice sa L.length cap),(4,.slice sb K.length cap2),(11,pW p),(13,pW q),(15,pW r),(17,.int .i64 (i:Nat))] a) :
  WB PP (.seq (.region 9 ops8a true) (.seq (.region 10 ops8b true) (.seq (sq1 (after 2 y8)) (.seq (.seq (sq1 (sq1 (after 3 y8))) (.cond (.tmp 98) (.region 13 ops8c true) .skip)) (after 4 y8))))) (fun e a' w'=>e=.normal∧HasS 250 [(3,.slice sa L.length cap),(4,.slice sb K.length cap2),(11,pW p),(13,pW q),(15,pW r),(17,.int .i64 (i:Nat))] a'∧∃ V V',Tri W N ⟨p,sd,P,V⟩ ⟨q,sd,P,V⟩ ⟨r,sd,R,V'⟩ w') a w:=by
 obtain ⟨g,o,e,c1,c2,k1,k2⟩:=(hS1.on fun k hk=>hT.1.block k (by omega) (by omega)).two hlt
 subst e
 obtain ⟨kd,hkd⟩:∃ x,x=L.getD i 0:=⟨_,rfl⟩
 obtain ⟨c,hc⟩:∃ x,x=L.getD (i+1) 0:=⟨_,rfl⟩
 rw[← hkd]at c1 k1
 rw[← hc]at c2 k2
 refine WB.seq ((shp8a.region (nn:=250) (R:=Tri W N ⟨p,sd,P,V.move P kd c⟩ ⟨q,sd,P,V⟩ ⟨r,sd,R,V'⟩) (by omega) (by omega) (by omega) hA.size hA.defers (hA.get 11 (pW p) (by simp)) (hA.get 3 (.slice (some ⟨g,o,none⟩) L.length cap) (by simp)) (hA.get 17 (.int .i64 (i:Nat)) (by simp)) hlt hL c1 c2 (fun w w' h l=>h.like l) fun w' l=>(hT.like l).move hN h4 hd p1 _ _ k1.1 k1.2 k2.1 k2.2).mono ?_)
 rintro e a1 w1 ⟨rfl,hk1,hT1⟩
 have hA1:=hA.keep hk1 (by simp)
 obtain ⟨g',o',e,c1',c2',-,-⟩:=(hS1.on fun k hk=>hT1.1.block k (by omega) (by omega)).two hlt
 injection e with e
 injection e with e1 e2
 subst e1
 subst e2
 rw[← hkd]at c1'
 rw[← hc]at c2'
 refine WB.seq ((shp8b.region (nn:=250) (R:=Tri W N ⟨p,sd,P,V.move P kd c⟩ ⟨q,sd,P,V.move P kd c⟩ ⟨r,sd,R,V'⟩) (by omega) (by omega) (by omega) hA1.size hA1.defers (hA1.get 13 (pW q) (by simp)) (hA1.get 3 (.slice (some ⟨g,o,none⟩) L.length cap) (by simp)) (hA1.get 17 (.int .i64 (i:Nat)) (by simp)) hlt hL c1' c2' (fun w w' h l=>h.like l) fun w' l=>((hT1.like l).swap.move hN h4 hd p1 _ _ k1.1 k1.2 k2.1 k2.2).mono fun v w2 ⟨hv,h⟩=>⟨hv,h.swap⟩).mono ?_)
 rintro e a2 w2 ⟨rfl,hk2,hT2⟩
 have hA2:=hA1.keep hk2 (by simp)
 refine WB.seq ((wb_piece (w8_8 hA2)).mono ?_)
 rintro e a3 w3 ⟨rfl,hA3,l3⟩
 refine WB.seq ((cond8 (hT2.like l3) hN h4 hd hS hK p2 (by omega) hA3).mono ?_)
 rintro e a4 w4 ⟨rfl,hA4,V2,hT4⟩
 refine (wb_piece (w8_11 hA4)).mono ?_
 rintro e a5 w5 ⟨rfl,hA5,l5⟩
 exact ⟨rfl,hA5,_,V2,hT4.like l5⟩
end
section
variable {W:World} {a0:Act} {seed players behind:Int} {sa sb:Option Addr} {cap cap2:Nat} {L K:List Int}
theorem twi_wb (hA:HasS 250 [(0,.int .i64 seed),(1,.int .i64 players),(2,.int .i64 behind),(3,.slice sa L.length cap),(4,.slice sb K.length cap2)] a0)(hS1:Scr W W.heap.size (.slice sa L.length cap) L)(hL:L.length≤140737488351232)(hS2:Scr W W.heap.size (.slice sb K.length cap2) K)(hK:K.length≤140737488351232)(b0:-9223372036854775808≤seed)(b1:seed≤9223372036854775807)(b2:-9223372036854775808≤players)(b3:players≤9223372036854775807)(b4:-9223372036854775808≤behind)(b5:behind≤9223372036854775807)(hC:Corners W)(hD:W.cell? ⟨4,15,none⟩=some (.int .u8 4)) :
  WB PP cTwi (fun e a w'=>e=.ret∧a.defers=[]∧a.tmps.getD 10 undef=.bool true∧Stays (fun k=>W.heap.size≤k) W w') a0 W:=by
 have h4:4<W.heap.size:=cell_lt hD
 have r2:=pickF_range players 3 (by omega)
 obtain ⟨P,hP⟩:∃ P,P=(2+pickF players 3).toNat:=⟨_,rfl⟩
 have p1:1≤P:=by omega
 obtain ⟨pl,hpl⟩:∃ x,IntKind.i64.wrap (players+1)=x:=⟨_,rfl⟩
 obtain ⟨bh,hbh⟩:∃ x,IntKind.i64.wrap (behind+1)=x:=⟨_,rfl⟩
 have r3:=pickF_range pl 3 (by omega)
 obtain ⟨R,hR⟩:∃ R,R=(2+pickF pl 3).toNat:=⟨_,rfl⟩
 have p2:1≤R:=by omega
 have wr:∀ x:Int,-9223372036854775808≤IntKind.i64.wrap x∧IntKind.i64.wrap x≤9223372036854775807:=fun x=>by
  constructor<;>simp[IntKind.wrap,IntKind.bits,IntKind.signed]<;>split<;>omega
 have wp:=wr (players+1)
 have wb:=wr (behind+1)
 rw[hpl]at wp
 rw[hbh]at wb
 obtain ⟨N,hN⟩:∃ N,N=W.heap.size:=⟨_,rfl⟩
 rw[← hN]at hS1 hS2 h4 ⊢
 have hNW:N≤W.heap.size:=by omega
 obtain ⟨sd,hsd⟩:∃ x,x=pickF seed 1000:=⟨_,rfl⟩
 rw[c8_eq]
 refine WB.seq ((wb_piece (w8_0 hA)).mono ?_)
 rintro e a1 w1 ⟨rfl,hA1,l1⟩
 have hst1:Stays (fun k=>N≤k) W w1:=(Stays.self _ _).like l1
 refine WB.seq ((WB.of_wp PP_rdy (fun e a w h=>.inl h.1) (fun t d=>w8_1 (R:=fun pb=>B1 W N ⟨pb,sd,P,vw0 sd P⟩) hA1 t d ?_)).mono ?_)
 ·obtain ⟨hc,hd⟩:=hst1.corners hN hC hD t d
  refine (begin_at seed players behind (re w1 t d) b0 b1 b2 b3 b4 b5 hc hd).mono fun e w' hb=>?_
  rw[← hsd,← hP]at hb
  exact begun1 hst1 (by rw[l1.1,hN]) hb
 rintro e a2 w2 ⟨t2,d2,rfl,p,hA2,hB2⟩
 have hB2:B1 W N ⟨p,sd,P,vw0 sd P⟩ w2:=hB2.like ⟨rfl,rfl,rfl⟩
 refine WB.seq ((WB.of_wp PP_rdy (fun e a w h=>.inl h.1) (fun t d=>w8_2 (R:=fun pb=>B2 W N ⟨p,sd,P,vw0 sd P⟩ ⟨pb,sd,P,vw0 sd P⟩) hA2 hbh t d ?_)).mono ?_)
 ·obtain ⟨hc,hd⟩:=hB2.1.corners hN hC hD t d
  refine (begin_at seed players bh (re w2 t d) b0 b1 b2 b3 wb.1 wb.2 hc hd).mono fun e w' hb=>?_
  rw[← hsd,← hP]at hb
  exact begun2 hB2 (Nat.le_trans hNW hB2.1.size) hb
 rintro e a3 w3 ⟨t3,d3,rfl,q,hA3,hB3⟩
 have hB3:B2 W N ⟨p,sd,P,vw0 sd P⟩ ⟨q,sd,P,vw0 sd P⟩ w3:=hB3.like ⟨rfl,rfl,rfl⟩
 refine WB.seq ((WB.of_wp PP_rdy (fun e a w h=>.inl h.1) (fun t d=>w8_3 (R:=fun pb=>Tri W N ⟨p,sd,P,vw0 sd P⟩ ⟨q,sd,P,vw0 sd P⟩ ⟨pb,sd,R,vw0 sd R⟩) hA3 hpl t d ?_)).mono ?_)
 ·obtain ⟨hc,hd⟩:=hB3.1.corners hN hC hD t d
  refine (begin_at seed pl 0 (re w3 t d) b0 b1 wp.1 wp.2 (by omega) (by omega) hc hd).mono fun e w' hb=>?_
  rw[← hsd,← hR]at hb
  exact begun3 hB3 hb
 rintro e a4 w4 ⟨t4,d4,rfl,r,hA4,hT4⟩
 have hT4:Tri W N ⟨p,sd,P,vw0 sd P⟩ ⟨q,sd,P,vw0 sd P⟩ ⟨r,sd,R,vw0 sd R⟩ w4:=hT4.like ⟨rfl,rfl,rfl⟩
 refine WB.seq ((wb_piece (w8_4 hA4)).mono ?_)
 rintro e a5 w5 ⟨rfl,hA5,l5⟩
 refine WB.seq (WB.seq ((wb_piece (w8_5 hA5)).mono ?_))
 rintro e a6 w6 ⟨rfl,hA6,l6⟩
 refine WB.block ?_
 refine WB.loop (fun a w=>∃ (i:Nat) (V V':Vw),i≤L.length+1∧HasS 250 [(3,.slice sa L.length cap),(4,.slice sb K.length cap2),(11,pW p),(13,pW q),(15,pW r),(17,.int .i64 (i:Nat))] a∧Tri W N ⟨p,sd,P,V⟩ ⟨q,sd,P,V⟩ ⟨r,sd,R,V'⟩ w) (fun a w=>L.length+2-(intOf (a.tmps.getD 17 undef)).toNat) ⟨0,_,_,by omega,hA6,(hT4.like l5).like l6⟩ ?_
 rintro a w ⟨i,V,V',hi,hA,hT⟩
 have e17:=hA.get 17 (.int .i64 (i:Nat)) (by simp)
 rw[x8_eq]
 by_cases hlt:i+1<L.length
 ·refine WB.seq ((wb_piece (w8_6 hA (by omega) (by omega) hL)).mono ?_)
  rintro e b3 v3 ⟨rfl,hB3,l3⟩
  refine WB.seq (WB.block ((round8 (hT.like l3) hNW h4 hD hS1 hL hS2 hK p1 p2 hlt hB3).mono ?_))
  rintro e b4 v4 ⟨rfl,hB4,V2,V3,hT4⟩
  refine (wb_piece (w8_12 hB4 (by omega) (by omega))).mono ?_
  rintro e b5 v5 ⟨rfl,hB5,l5⟩
  refine ⟨⟨i+2,V2,V3,by omega,by push_cast;exact hB5,hT4.like l5⟩,?_⟩
  rw[hB5.get 17 (.int .i64 ((i:Nat)+2)) (by simp),e17]
  simp only[intOf]
  omega
 ·refine WB.seq ((WB.of_wp PP_rdy (fun e a w h=>.inr (.inr ⟨0,h.1⟩)) (w8_7 (w:=w) hA (by omega) (by omega) (by omega))).mono ?_)
  rintro e b3 v3 ⟨t,d,rfl,hB3,l3⟩
  have l3:like v3 w:=l3
  have hT3:=hT.like l3
  have g11:=hB3.get 11 (pW p) (by simp)
  have g13:=hB3.get 13 (pW q) (by simp)
  have gz:=hB3.size
  have gd:=hB3.defers
  obtain ⟨tm,df⟩:=b3
  obtain rfl:df=[]:=gd
  obtain ⟨hst,D1,D2,D3,⟨Q1,T1,hPA1,hV1⟩,⟨Q2,T2,hPA2,hV2⟩,-⟩:=hT3
  have hV1:Q1.vw=V:=hV1
  have hV2:Q2.vw=V:=hV2
  show WB PP (after 6 cTwi) _ _ v3
  refine (WB.of_wp PP_rdy (Q:=fun e a w'=>e=.ret∧a.defers=[]∧a.tmps.getD 10 undef=.bool true∧Stays (fun k=>N≤k) W w') (fun e a w h=>.inr (.inl h.1)) fun t d=>?_).mono ?_
  ·obtain ⟨n1,g1,k1,h1⟩:=PA.shw (PA.on hPA1 (w':=re v3 t d) fun _ _ _=>rfl)
   obtain ⟨n2,g2,k2,h2⟩:=PA.shw (PA.on hPA2 (w':=re v3 t d) fun _ _ _=>rfl)
   rw[hV1]at h1
   rw[hV2]at h2
   exact wp_mono (twins_rest h1 h2 gz g11 g13) fun e a w2 ⟨q1,q2,q3,q4⟩=>⟨q1,q2,q3,hst.low ⟨q4.os,q4.output,q4.size,fun j hj hn=>q4.block j hj⟩⟩
  ·rintro e a w22 ⟨t,d,q1,q2,q3,q4⟩
   exact ⟨q1,q2,q3,q4.os,q4.output,q4.size,q4.block⟩
end
end Go.Proofs.YtdianedehhecoaaGreatDoor.Co
/- Twins: one good run from every start. -/
namespace Go.Proofs.YtdianedehhecoaaGreatDoor.Co
open Go.Conc (G solo)
open Go.RowKit
theorem f8_fn:PP.fg[8]? = some Tryz.f8:=by kernel_rfl
theorem f8_same:PP.fs[8]? = PP.fg[8]?:=by kernel_rfl
theorem f8_body:Tryz.f8.body=some cTwi:=by kernel_rfl
theorem f8_noInit:PP.T.inits.idxOf? 8=none:=by kernel_rfl
theorem twins_good (W:World)(seed players behind:Int){cv cv2:Value}{L K:List Int}(hN:NArg W cv L)(hL:L.length≤140737488351232)(hM:NArg W cv2 K)(hK:K.length≤140737488351232)(b0:-9223372036854775808≤seed)(b1:seed≤9223372036854775807)(b2:-9223372036854775808≤players)(b3:players≤9223372036854775807)(b4:-9223372036854775808≤behind)(b5:behind≤9223372036854775807)(hC:Corners W)(hD:W.cell? ⟨4,15,none⟩=some (.int .u8 4)) :
  letI:=loopsOf W
  ∃ N last o W' t',runNT PP.g (N+1) (solo (G (Frame.enter PP.g 8 #[.int .i64 seed,.int .i64 players,.int .i64 behind,cv,cv2] .normal) []) W) #[]=(.ended o W',t')∧runN PP.g N (solo (G (Frame.enter PP.g 8 #[.int .i64 seed,.int .i64 players,.int .i64 behind,cv,cv2] .normal) []) W)=.next last∧step PP.g last=.ended o W' ∧
   Go.Conc.Good PP.g (fun v W'=>∃ Γ w',(v=.bool true∧Stays (fun k=>W.heap.size≤k) (calmed W) w')∧Gh Γ w' W') last o W' t':=by
 letI:=loopsOf W
 have hN':=scr_calmed hN
 have hM':=scr_calmed hM
 obtain ⟨sa,cap,rfl,-⟩:=hN
 obtain ⟨sb,cap2,rfl,-⟩:=hM
 have hC':Corners (calmed W):=fun p hp=>by
  obtain ⟨h1,h2,h3,h4⟩:=hC p hp
  exact ⟨calmedCell h1,calmedCell h2,calmedCell h3,calmedCell h4⟩
 have hD':=calmedCell hD
 have hcs:=calmedSize W
 refine good_of_base W f8_fn f8_same f8_body f8_noInit PP_rdy fun c hS=>?_
 refine (twi_wb (s8 _ _ _ _ _) hN' hL hM' hK b0 b1 b2 b3 b4 b5 hC' hD' _ _ [] c hS).mono ?_
 rintro c4 ⟨e,a6,w6,⟨rfl,r2,r3,r4⟩,todo,hS⟩
 exact ⟨a6,w6,todo,.bool true,r2,⟨fun _ _=>0,0,by rw[results_tmp rfl,r3]⟩,⟨rfl,by rw[hcs]at r4;exact r4⟩,hS⟩
end Go.Proofs.YtdianedehhecoaaGreatDoor.Co