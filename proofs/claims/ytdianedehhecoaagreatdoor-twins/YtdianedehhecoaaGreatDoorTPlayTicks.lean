/- Play.tick behind Host.Tick: alone. -/
import Derived.Test.YtdianedehhecoaaGreatDoorTKeepBegins
set_option linter.unusedVariables false
set_option linter.unusedSimpArgs false
set_option maxHeartbeats 8000000
set_option maxRecDepth 20000
namespace Go.Proofs.YtdianedehhecoaaGreatDoor
open Go.RowKit
noncomputable def kTick:Code:=(Tryz.f14.body).getD .skip
theorem litk70 (f:Nat→Value):((List.range 70).map f).toArray=#[f 0,f 1,f 2,f 3,f 4,f 5,f 6,f 7,f 8,f 9,f 10,f 11,f 12,f 13,f 14,f 15,f 16,f 17,f 18,f 19,f 20,f 21,f 22,f 23,f 24,f 25,f 26,f 27,f 28,f 29,f 30,f 31,f 32,f 33,f 34,f 35,f 36,f 37,f 38,f 39,f 40,f 41,f 42,f 43,f 44,f 45,f 46,f 47,f 48,f 49,f 50,f 51,f 52,f 53,f 54,f 55,f 56,f 57,f 58,f 59,f 60,f 61,f 62,f 63,f 64,f 65,f 66,f 67,f 68,f 69]:=by kernel_rfl
section
variable {W wd:World} {D:Nat→Prop} {Q:PSt} {f:PIx→Nat→Prop} {hbk pb vb m:Nat} {wn:Int} {tm:Array Value} {QQ:Exit→Act→World→Prop}
theorem PG.lookH (h:PG W D Q f):Calls Pz.prog 20 #[.pointer (some ⟨Q.hbk,0,none⟩),.int .i64 Q.m] W fun e w'=>e=.returned (.tuple #[.agg #[.int .i64 (if overB Q.M.S then 3 else 2),.bool false,.int .i64 Q.M.ps.length,.int .i64 Q.M.S.turn,.int .i64 (sumTo Q.M.waits Q.M.ps.length),.int .i64 (winP (toPS Q.M.S).units)],.int .i64 0])∧Below W.heap.size W w':=by
 obtain ⟨g,hM⟩:=h.mat
 exact hlook_at h.room hM.cells rfl (MG.look (hM.below ((Below.refl _ _).alloc (Nat.le_refl _) _)) h.ok.lock)
theorem PG.turned (h:PG W D Q f)(t:Nat)(o:Bool):∃ f',PG ((W.setCell ⟨Q.pb,10,none⟩ (.int .i64 t)).setCell ⟨Q.pb,11,none⟩ (.bool o)) (Nw D W.heap.size) { Q with turns:=t,over:=o } f'∧Keep D W ((W.setCell ⟨Q.pb,10,none⟩ (.int .i64 t)).setCell ⟨Q.pb,11,none⟩ (.bool o)):=by
 refine h.change1 (Q':={ Q with turns:=t,over:=o }) .pl (((Keep.refl _ W).set (.inl h.fpl)).set (.inl h.fpl)) ⟨.inl h.fpl,(h.play.set 10 _).set 11 _⟩ (fun j hj=>?_) ⟨h.ok.lock,h.ok.last,h.ok.rooms,h.ok.seen,h.ok.since,h.ok.six⟩
 cases j<;>first|rfl|exact absurd rfl hj
theorem ktick_tail {t0 tn:Nat}{o0 ob:Bool}{pl wa:Int}(hw:((o0=true∨t0=1000)∧tn=t0)∨(o0=false∧t0<1000∧tn=t0+1))(ht0:t0≤1000)(hz:tm.size=70)(h0:tm.getD 0 undef=.pointer (some ⟨pb,0,none⟩))(h3:tm.getD 3 undef=.int .i64 0)(h4:tm.getD 4 undef=.pointer (some ⟨vb,0,none⟩))(h5:tm.getD 5 undef=.int .i64 0)
  (v0:wd.cell? ⟨vb,0,none⟩=some (.int .i64 (if ob then 3 else 2)))(v3:wd.cell? ⟨vb,3,none⟩=some (.int .i64 tn))(hvp:vb≠pb)(p10:wd.cell? ⟨pb,10,none⟩=some (.int .i64 t0))(p11:wd.cell? ⟨pb,11,none⟩=some (.bool o0))(z10:wd.frozen? ⟨pb,10,none⟩=false)(z11:wd.frozen? ⟨pb,11,none⟩=false)
  (HQQ:Hid (∀ a:Act,a.defers=[]→a.tmps.getD 2 undef=.bool true→QQ .ret a ((wd.setCell ⟨pb,10,none⟩ (.int .i64 tn)).setCell ⟨pb,11,none⟩ (.bool ob)))):Code.wp Pz.prog (after 3 kTick) QQ ⟨tm,[]⟩ wd:=by
 have e:=tmps_lit (n:=70) (tm:=tm) hz
 obtain ⟨f,hf⟩:∃ f:Nat→Value,f=fun i=>tm.getD i undef:=⟨_,rfl⟩
 have e0:f 0=.pointer (some ⟨pb,0,none⟩):=by rw[hf];exact h0
 have e3:f 3=.int .i64 0:=by rw[hf];exact h3
 have e4:f 4=.pointer (some ⟨vb,0,none⟩):=by rw[hf];exact h4
 have e5:f 5=.int .i64 0:=by rw[hf];exact h5
 rw[← hf,litk70]at e
 subst e
 clear hf hz h0 h3 h4 h5
 have hv10:wd.cell? ⟨vb,0,none⟩=wd.cell? ⟨vb,0,none⟩:=rfl
 simp only[kTick,after,Tryz.f14,Option.getD,e0,e3,e4,e5]
 clear e0 e3 e4 e5 hv10
 rcases hw with ⟨ho|ht,rfl⟩|⟨ho,ht,rfl⟩
 ·subst ho
  cases ob
  ·simp only[Bool.false_eq_true,if_false]at v0
   go_wp2
   exact HQQ.out _ rfl rfl
  ·simp only[if_true]at v0
   go_wp2
   exact HQQ.out _ rfl rfl
 ·subst ht
  cases o0<;>cases ob
  ·simp only[Bool.false_eq_true,if_false]at v0
   go_wp2
   exact HQQ.out _ rfl rfl
  ·simp only[if_true]at v0
   go_wp2
   exact HQQ.out _ rfl rfl
  ·simp only[Bool.false_eq_true,if_false]at v0
   go_wp2
   exact HQQ.out _ rfl rfl
  ·simp only[if_true]at v0
   go_wp2
   exact HQQ.out _ rfl rfl
 ·subst ho
  have hti:¬ (1000:Int)≤t0:=by omega
  cases ob
  ·simp only[Bool.false_eq_true,if_false]at v0
   go_wp2
   exact HQQ.out _ rfl rfl
  ·simp only[if_true]at v0
   go_wp2
   exact HQQ.out _ rfl rfl
def TickQ2 (W:World)(D:Nat→Prop)(Q:PSt)(t:Nat)(o:Bool)(e:Exit)(a:Act)(w':World):Prop :=
 e=.ret∧a.defers=[]∧a.tmps.getD 2 undef=.bool true∧(∃ f',PG w' (Nw D W.heap.size) { Q with turns:=t,over:=o } f')∧Keep D W w'
theorem ktick_rest {tn:Nat}(hS:PG W D Q f)(htn:Q.M.S.turn=tn)(hw:((Q.over=true∨Q.turns=1000)∧tn=Q.turns)∨(Q.over=false∧Q.turns<1000∧tn=Q.turns+1))(ht0:Q.turns≤1000)(hz:tm.size=70)(h0:tm.getD 0 undef=.pointer (some ⟨Q.pb,0,none⟩))(h3:tm.getD 3 undef=.int .i64 0) :
    Code.wp Pz.prog (after 2 kTick) (TickQ2 W D Q tn (overB Q.M.S)) ⟨tm,[]⟩ W:=by
  obtain ⟨wn,hwn⟩:∃ wn,winP (toPS Q.M.S).units=wn:=⟨_,rfl⟩
  obtain ⟨pl,hpl0⟩:∃ pl:Int,(Q.M.ps.length:Int)=pl:=⟨_,rfl⟩
  obtain ⟨wa,hwa⟩:∃ wa:Int,((sumTo Q.M.waits Q.M.ps.length:Nat):Int)=wa:=⟨_,rfl⟩
  obtain ⟨ob,hob⟩:∃ ob,overB Q.M.S=ob:=⟨_,rfl⟩
  obtain ⟨ph,hph⟩:∃ ph:Int,(if ob then 3 else 2:Int)=ph:=⟨_,rfl⟩
  have e:=tmps_lit (n:=70) (tm:=tm) hz
  obtain ⟨f2,hf⟩:∃ f:Nat→Value,f=fun i=>tm.getD i undef:=⟨_,rfl⟩
  have e0:f2 0=.pointer (some ⟨Q.pb,0,none⟩):=by rw[hf];exact h0
  have e3:f2 3=.int .i64 0:=by rw[hf];exact h3
  rw[← hf,litk70]at e
  subst e
  clear hf hz h0 h3
  have HB0:Hid (Below W.heap.size W (W.alloc (.cells #[.int .i64 0,.bool false,.int .i64 0,.int .i64 0,.int .i64 0,.int .i64 0] 46)).drew):=((Below.refl _ _).alloc (Nat.le_refl _) _).drew
  have HN0:Hid (BlkAt (W.alloc (.cells #[.int .i64 0,.bool false,.int .i64 0,.int .i64 0,.int .i64 0,.int .i64 0] 46)).drew W.heap.size viewZ 46):=BlkAt.new W viewZ _
  have hcl:∀ W',Below W.heap.size W W'→W'.cell? ⟨Q.pb,0,none⟩=some (.pointer (some ⟨Q.hbk,0,none⟩))∧W'.cell? ⟨Q.pb,1,none⟩=some (.int .i64 Q.m):=fun W' hb=>⟨(hS.below hb).play.cell rfl,(hS.below hb).play.cell rfl⟩
  have HL0:Hid (∀ W',Below W.heap.size W W'→Calls Pz.prog 20 #[.pointer (some ⟨Q.hbk,0,none⟩),.int .i64 Q.m] W' fun e w'=>e=.returned (.tuple #[.agg #[.int .i64 ph,.bool false,.int .i64 pl,.int .i64 tn,.int .i64 wa,.int .i64 wn],.int .i64 0])∧(w'.cell? ⟨Q.pb,0,none⟩=some (.pointer (some ⟨Q.hbk,0,none⟩))∧w'.cell? ⟨Q.pb,1,none⟩=some (.int .i64 Q.m))∧Hid (Below W.heap.size W w')):=fun W' hW=>by
    have H:=(hS.below hW).lookH
    rw[hob,hph,hpl0,htn,hwa,hwn]at H
    refine H.mono fun e w' ⟨he,hb⟩=>?_
    have hb':=hW.trans (hb.mono hW.size)
    exact ⟨he,hcl w' hb',hb'⟩
  have HL1:Hid (∀ W' vb,Below W.heap.size W W'→BlkAt W' vb viewZ 46→Calls Pz.prog 20 #[.pointer (some ⟨Q.hbk,0,none⟩),.int .i64 Q.m] W' fun e w'=>e=.returned (.tuple #[.agg #[.int .i64 ph,.bool false,.int .i64 pl,.int .i64 tn,.int .i64 wa,.int .i64 wn],.int .i64 0])∧(w'.cell? ⟨Q.pb,0,none⟩=some (.pointer (some ⟨Q.hbk,0,none⟩))∧w'.cell? ⟨Q.pb,1,none⟩=some (.int .i64 Q.m))∧Hid (BlkAt w' vb viewZ 46)∧ViewAt w' vb∧Hid (Below W.heap.size W w')):=fun W' vb hW hv=>by
    have H:=(hS.below hW).lookH
    rw[hob,hph,hpl0,htn,hwa,hwn]at H
    refine H.mono fun e w' ⟨he,hb⟩=>?_
    have hb':=hW.trans (hb.mono hW.size)
    have hv':=hv.same (hb.block _ hv.lt)
    exact ⟨he,hcl w' hb',hv',hv'.view,hb'⟩
  have q0:W.cell? ⟨Q.pb,0,none⟩=some (.pointer (some ⟨Q.hbk,0,none⟩)):=hS.play.cell rfl
  have q1:W.cell? ⟨Q.pb,1,none⟩=some (.int .i64 Q.m):=hS.play.cell rfl
  have d0:W.drew.cell? ⟨Q.pb,0,none⟩=some (.pointer (some ⟨Q.hbk,0,none⟩)):=q0
  have d1:W.drew.cell? ⟨Q.pb,1,none⟩=some (.int .i64 Q.m):=q1
  have hpl:=hS.play.lt
  have dl:Q.pb<W.drew.heap.size:=hpl
  have HS:=(show Hid _ from hS)
  rw[hob]
  have HPH:Hid ((if ob then 3 else 2:Int)=ph):=hph
  clear hwn hS hpl0 hwa hob htn hcl hph
  have HQQ:Hid (∀ wd,Below W.heap.size W wd→∀ a:Act,a.defers=[]→a.tmps.getD 2 undef=.bool true→TickQ2 W D Q tn ob .ret a ((wd.setCell ⟨Q.pb,10,none⟩ (.int .i64 tn)).setCell ⟨Q.pb,11,none⟩ (.bool ob))):=fun wd hb a h1 h2=>by
    obtain ⟨f',h',hk'⟩:=(PG.below HS.out hb).turned tn ob
    exact ⟨rfl,h1,h2,⟨f',h'.own fun k hd _=>hd.imp id fun x=>Nat.le_trans hb.size x⟩,((Keep.ofBelow hb).mono (O':=D) fun j hj=>.inr hj).trans hk' fun j hj=>.inl hj⟩
  generalize TickQ2 W D Q tn ob=QQ at *
  simp only[kTick,after,Tryz.f14,Option.getD,e0,e3]
  clear e0 e3
  apply wp_seq_k;intro _ _
  go_region_held3 (fun w'=>w'.cell? ⟨Q.pb,0,none⟩=some (.pointer (some ⟨Q.hbk,0,none⟩))∧w'.cell? ⟨Q.pb,1,none⟩=some (.int .i64 Q.m)) (first|(with_reducible assumption)|(refine ⟨?_,?_⟩<;>first|(with_reducible assumption)|(rw[World.cell?_alloc_past];(with_reducible assumption);first|exact dl|(with_reducible assumption))|(rw[cell_set6 _ _ _ _ _ _ _ _ _ _ (by omega)];(with_reducible assumption)))|go_keep) (first
    | (go_at_call 20;refine Calls.mono (HL0.out _ (by with_reducible exact (Below.refl _ _).drew)) ?_;rintro e w2 ⟨rfl,⟨p0',p1'⟩,hq⟩;have pl':Q.pb<w2.heap.size:=Nat.lt_of_lt_of_le hpl hq.out.size)
    | (go_at_call 20;refine Calls.mono (HL1.out _ _ (by with_reducible exact HB0.out) (by with_reducible exact HN0.out)) ?_;rintro e w2 ⟨rfl,⟨p0',p1'⟩,hv,⟨v0,v1,v2,v3,v4,v5,z0,z1,z2,z3,z4,z5,vl⟩,hq⟩;have pl':Q.pb<w2.heap.size:=Nat.lt_of_lt_of_le hpl hq.out.size))
  all_goals
    first
    | (have hV:BlkAt (w2.alloc (.cells #[.int .i64 ph,.bool false,.int .i64 pl,.int .i64 tn,.int .i64 wa,.int .i64 wn] 46)) w2.heap.size [.int .i64 ph,.bool false,.int .i64 pl,.int .i64 tn,.int .i64 wa,.int .i64 wn] 46:=BlkAt.new w2 [.int .i64 ph,.bool false,.int .i64 pl,.int .i64 tn,.int .i64 wa,.int .i64 wn] _
       have hB:Below W.heap.size W (w2.alloc (.cells #[.int .i64 ph,.bool false,.int .i64 pl,.int .i64 tn,.int .i64 wa,.int .i64 wn] 46)):=hq.out.alloc hq.out.size _
       obtain ⟨wd,hwd⟩:∃ x,x=(w2.alloc (.cells #[.int .i64 ph,.bool false,.int .i64 pl,.int .i64 tn,.int .i64 wa,.int .i64 wn] 46)):=⟨_,rfl⟩
       obtain ⟨vb,hvd⟩:∃ x,x=w2.heap.size:=⟨_,rfl⟩
       rw[← hwd]at hV hB ⊢
       rw[← hvd]at hV ⊢
       have hvb:W.heap.size≤vb:=Nat.le_trans hq.out.size (Nat.le_of_eq hvd.symm))
    | (have g0:BlkAt w2 W.heap.size viewZ 46:=(by with_reducible exact hv.out)
       have hV:BlkAt ((((((w2.setCell ⟨W.heap.size,0,none⟩ (.int .i64 ph)).setCell ⟨W.heap.size,1,none⟩ (.bool false)).setCell ⟨W.heap.size,2,none⟩ (.int .i64 pl)).setCell ⟨W.heap.size,3,none⟩ (.int .i64 tn)).setCell ⟨W.heap.size,4,none⟩ (.int .i64 wa)).setCell ⟨W.heap.size,5,none⟩ (.int .i64 wn)) W.heap.size [.int .i64 ph,.bool false,.int .i64 pl,.int .i64 tn,.int .i64 wa,.int .i64 wn] 46:=(((((g0.set 0 _).set 1 _).set 2 _).set 3 _).set 4 _).set 5 _
       have hB:Below W.heap.size W ((((((w2.setCell ⟨W.heap.size,0,none⟩ (.int .i64 ph)).setCell ⟨W.heap.size,1,none⟩ (.bool false)).setCell ⟨W.heap.size,2,none⟩ (.int .i64 pl)).setCell ⟨W.heap.size,3,none⟩ (.int .i64 tn)).setCell ⟨W.heap.size,4,none⟩ (.int .i64 wa)).setCell ⟨W.heap.size,5,none⟩ (.int .i64 wn)):=((((((hq.out.setCell (Nat.le_refl _) _).setCell (Nat.le_refl _) _).setCell (Nat.le_refl _) _).setCell (Nat.le_refl _) _).setCell (Nat.le_refl _) _).setCell (Nat.le_refl _) _)
       obtain ⟨wd,hwd⟩:∃ x,x=((((((w2.setCell ⟨W.heap.size,0,none⟩ (.int .i64 ph)).setCell ⟨W.heap.size,1,none⟩ (.bool false)).setCell ⟨W.heap.size,2,none⟩ (.int .i64 pl)).setCell ⟨W.heap.size,3,none⟩ (.int .i64 tn)).setCell ⟨W.heap.size,4,none⟩ (.int .i64 wa)).setCell ⟨W.heap.size,5,none⟩ (.int .i64 wn)):=⟨_,rfl⟩
       obtain ⟨vb,hvd⟩:∃ x,x=W.heap.size:=⟨_,rfl⟩
       rw[← hwd]at hV hB ⊢
       rw[← hvd]at hV ⊢
       have hvb:W.heap.size≤vb:=Nat.le_of_eq hvd.symm)
    have hPl:BlkAt wd Q.pb Q.cells 37:=PG.play (PG.below HS.out hB)
    have hvp:vb≠Q.pb:=by omega
    first
    | exact ktick_tail (pl:=pl) (wa:=wa) hw ht0 (by rfl) (by rfl) (by rfl) (by rfl) (by rfl) (by rw[HPH.out];exact hV.cell rfl) (hV.cell rfl) hvp (hPl.cell rfl) (hPl.cell rfl) (hPl.free 10) (hPl.free 11) (HQQ.out wd hB)
    | (go_step;exact ktick_tail (pl:=pl) (wa:=wa) hw ht0 (by rfl) (by rfl) (by rfl) (by rfl) (by rfl) (by rw[HPH.out];exact hV.cell rfl) (hV.cell rfl) hvp (hPl.cell rfl) (hPl.cell rfl) (hPl.free 10) (hPl.free 11) (HQQ.out wd hB))
    | (go_step;go_step;exact ktick_tail (pl:=pl) (wa:=wa) hw ht0 (by rfl) (by rfl) (by rfl) (by rfl) (by rfl) (by rw[HPH.out];exact hV.cell rfl) (hV.cell rfl) hvp (hPl.cell rfl) (hPl.cell rfl) (hPl.free 10) (hPl.free 11) (HQQ.out wd hB))
end
end Go.Proofs.YtdianedehhecoaaGreatDoor
/- A play's move that is no tick: alone. -/
namespace Go.Proofs.YtdianedehhecoaaGreatDoor
open Go.RowKit
section
variable {W:World} {D:Nat→Prop} {Q:PSt} {f:PIx→Nat→Prop} {sd:Int} {P pb:Nat} {T:List (List RC)}
def MoveL (W:World)(D:Nat→Prop)(pb:Nat)(sd:Int)(P:Nat)(T:List (List RC))(V:Vw)(w':World):Prop:=Keep D W w'∧∃ Q',PA w' (Nw D W.heap.size) pb sd P T Q'∧Q'.vw=V
theorem PA.watchM (h:PA W D pb sd P T Q):Calls Pz.prog 21 #[.pointer (some ⟨pb,0,none⟩)] W fun e w'=>e=.returned (.bool true)∧MoveL W D pb sd P T Q.vw.watch w':=by
 obtain ⟨⟨f,hP⟩,hH,rfl,hsi⟩:=h
 refine (hP.watch (by rw[hH.turns];have:=hH.most;omega)).mono ?_
 rintro e w' ⟨he,hk,(⟨h6,f',h'⟩|⟨h6,b,lv,sv,nv,f',h'⟩)⟩
 ·exact ⟨he,hk,Q,⟨⟨f',h'⟩,hH,rfl,hsi⟩,vw_watched6 h6⟩
 ·refine ⟨he,hk,Q.watched b lv sv nv,⟨⟨f',h'⟩,?_,rfl,?_⟩,vw_watched (by omega) b lv sv nv⟩
  ·have hh:=hH.watch hP.ok.since hP.ok.seen (b:=b) (lv:=lv) (sv:=sv) (nv:=nv)
   rw[← hH.turns]at hh
   exact hh
  ·unfold PSt.watched
   simp
theorem PA.pollM (h:PA W D pb sd P T Q){j:Nat}(hj:j<Q.seen.length)(most:Nat)(hm:most≤100000):Calls Pz.prog 35 #[.pointer (some ⟨pb,0,none⟩),.int .i64 j,.int .i64 most] W fun e w'=>e=.returned (.bool true)∧MoveL W D pb sd P T (Q.vw.poll j most) w':=by
 obtain ⟨⟨f,hP⟩,hH,rfl,hsi⟩:=h
 obtain ⟨u,hu⟩:∃ u,Q.M.ws[j]? = some u:=⟨_,List.getElem?_eq_getElem (by rw[← hP.ok.seen];exact hj)⟩
 obtain ⟨s0,hs⟩:∃ s,Q.seen[j]? = some s:=⟨_,List.getElem?_eq_getElem hj⟩
 refine (hP.poll hH hu most hm hs).mono ?_
 rintro e w' ⟨he,hk,uv,f',h'⟩
 exact ⟨he,hk,Q.polled j u uv most s0,⟨⟨f',h'⟩,hH.poll hu hs most (sv:=Q.sv),rfl,hsi⟩,vw_polled hu hs most uv⟩
theorem PA.submitM (h:PA W D pb sd P T Q)(p1:1≤P)(c:Int)(c0:-9223372036854775808≤c)(c1:c≤9223372036854775807):Calls Pz.prog 48 #[.pointer (some ⟨pb,0,none⟩),.int .i64 c] W fun e w'=>e=.returned (.bool true)∧MoveL W D pb sd P T (Q.vw.submit (pickF c P).toNat (bytesK (pickF c P) (Int.tdiv c 4))) w':=by
 obtain ⟨⟨f,hP⟩,hH,rfl,hsi⟩:=h
 have hr:=pickF_range c P (by omega)
 obtain ⟨i,hi⟩:∃ i:Nat,(i:Int)=pickF c P:=⟨(pickF c P).toNat,by omega⟩
 obtain ⟨p,hp⟩:∃ p,Q.M.ps[i]? = some p:=⟨_,List.getElem?_eq_getElem (by rw[hH.size];omega)⟩
 obtain ⟨g,hM⟩:=hP.mat
 have hf:=hM.ok.few
 have hs:=hH.size
 refine (hP.submit hH p1 c c0 c1 hi hp).mono ?_
 have hin:(pickF c P).toNat=i:=by omega
 rw[hin,← hi]
 rintro e w' ⟨he,hk,(⟨a1,f',h'⟩|⟨a1,a2,wv,v',f',h'⟩)⟩
 ·exact ⟨he,hk,Q,⟨⟨f',h'⟩,hH,rfl,hsi⟩,vw_full hp a1 _⟩
 ·exact ⟨he,hk,_,⟨⟨f',h'⟩,hH.submit hp (t':=⟨v',(Q.tk i).bs++[bytesK i (Int.tdiv c 4)]⟩) rfl (bytesK_first _ _ (by omega) (by omega)) rfl,rfl,hsi⟩,vw_takes hp a1 a2 _ _ _ _ _⟩
theorem PA.moveL (h:PA W D pb sd P T Q)(p1:1≤P)(kind c:Int)(k0:-9223372036854775808≤kind)(k1:kind≤9223372036854775807)(c0:-9223372036854775808≤c)(c1:c≤9223372036854775807)(hk:2≤pickF kind 10) :
  Calls Pz.prog 22 #[.pointer (some ⟨pb,0,none⟩),.int .i64 kind,.int .i64 c] W fun e w'=>e=.returned (.bool true)∧MoveL W D pb sd P T (Q.vw.move P kind c) w':=by
 unfold Vw.move
 have hr:=pickF_range kind 10 (by omega)
 have HK:Hid (∀ w,Calls Pz.prog 25 #[.int .i64 kind,.int .i64 10] w fun e w'=>e=.returned (.int .i64 (pickF kind 10))∧w'=w):=fun w=>kpick_any kind 10 w k0 k1 (by omega) (by omega)
 generalize pickF kind 10=k at *
 have hk0:¬ k=0:=by omega
 have hk1:¬ k=1:=by omega
 rw[if_neg (by omega)]
 by_cases e2:k=2
 ·rw[if_pos e2]
  have HW:=(show Hid _ from h.watchM)
  clear h
  subst e2
  go_enter Pz.func22,Tryz.ntmps22
  go_wp2_with (first|(go_at_call 25;refine Calls.mono (HK.out _) ?_;rintro e w' ⟨rfl,hw⟩;rw[hw];clear hw w')|(go_at_call 21;refine Calls.mono HW.out ?_;rintro e w2 ⟨rfl,hq⟩))
  go_ret
  exact ⟨rfl,hq⟩
 ·rw[if_neg e2]
  by_cases e3:k=3
  ·rw[if_pos e3]
   have hn:Q.seen.length≤6∧1≤Q.seen.length:=by
    obtain ⟨⟨f,hP⟩,hH,-,hsi⟩:=h
    have:=hP.ok.six
    have h1:=hP.ok.seen
    have h2:=hP.ok.since
    have:Q.since.length≠0:=fun e=>hsi (List.eq_nil_of_length_eq_zero e)
    omega
   have hr1:=pickF_range c Q.seen.length (by omega)
   have ht:=tdiv7_range c c0 c1
   have hr2:=pickF_range (Int.tdiv c 7) 3 (by omega)
   obtain ⟨j,hj⟩:∃ j:Nat,(j:Int)=pickF c Q.seen.length:=⟨(pickF c Q.seen.length).toNat,by omega⟩
   obtain ⟨q,hq⟩:∃ q:Nat,(q:Int)=pickF (Int.tdiv c 7) 3:=⟨(pickF (Int.tdiv c 7) 3).toNat,by omega⟩
   have HP1:Hid (∀ w,Calls Pz.prog 25 #[.int .i64 c,.int .i64 Q.seen.length] w fun e w'=>e=.returned (.int .i64 j)∧w'=w):=fun w=>by rw[hj];exact kpick_any c Q.seen.length w c0 c1 (by omega) (by omega)
   have HP2:Hid (∀ w,Calls Pz.prog 25 #[.int .i64 (Int.tdiv c 7),.int .i64 3] w fun e w'=>e=.returned (.int .i64 q)∧w'=w):=fun w=>by rw[hq];exact kpick_any (Int.tdiv c 7) 3 w ht.1 ht.2 (by omega) (by omega)
   have HPo:=(show Hid _ from h.pollM (j:=j) (by omega) q (by omega))
   rw[show (pickF c Q.vw.seen.length).toNat=j by show (pickF c Q.seen.length).toNat=j;omega,show (pickF (Int.tdiv c 7) 3).toNat=q by omega]
   obtain ⟨sa,scap,c8⟩:∃ sa scap,W.cell? ⟨pb,8,none⟩=some (.slice sa Q.seen.length scap):=by
    obtain ⟨⟨f,hP⟩,hH,e,hsi⟩:=h
    obtain ⟨sa,scap,esv⟩:=row_slice hP.seen
    exact ⟨sa,scap,by rw[← e,← esv];exact hP.play.cell rfl⟩
   clear h hj hq hr1 hr2
   generalize Q.seen.length=n at *
   subst e3
   go_enter Pz.func22,Tryz.ntmps22
   go_wp2_with (first|(go_at_call 25;with_reducible refine Calls.mono (HK.out _) ?_;rintro e w' ⟨rfl,hw⟩;rw[hw];clear hw w')|(go_at_call 25;with_reducible refine Calls.mono (HP1.out _) ?_;rintro e w' ⟨rfl,hw⟩;rw[hw];clear hw w')|(go_at_call 25;with_reducible refine Calls.mono (HP2.out _) ?_;rintro e w' ⟨rfl,hw⟩;rw[hw];clear hw w')|(go_at_call 35;refine Calls.mono HPo.out ?_;rintro e w2 ⟨rfl,hq⟩))
   go_ret
   exact ⟨rfl,hq⟩
  ·rw[if_neg e3]
   have HS:=(show Hid _ from h.submitM p1 c c0 c1)
   generalize Q.vw.submit _ _=V at *
   clear h
   go_enter Pz.func22,Tryz.ntmps22
   go_wp2_with (first|(go_at_call 25;refine Calls.mono (HK.out _) ?_;rintro e w' ⟨rfl,hw⟩;rw[hw];clear hw w')|(go_at_call 48;refine Calls.mono HS.out ?_;rintro e w2 ⟨rfl,hq⟩))
   go_ret
   exact ⟨rfl,hq⟩
end
end Go.Proofs.YtdianedehhecoaaGreatDoor
/- Watched behind its calls of the play: alone. -/
namespace Go.Proofs.YtdianedehhecoaaGreatDoor
open Go.RowKit
structure Told2 (w:World)(N pb:Nat)(T:List (List RC))(n:Nat)(sg scap ng ncap:Nat)(since:List Nat):Prop where
 seen:w.cell? ⟨pb,8,none⟩=some (.slice (some ⟨sg,0,none⟩) n scap)
 since':w.cell? ⟨pb,9,none⟩=some (.slice (some ⟨ng,0,none⟩) n ncap)
 turns:w.cell? ⟨pb,10,none⟩=some (.int .i64 T.length)
 one:0<n
 few:n≤6
 len:since.length=n
 le:∀ (j k:Nat),since[j]? = some k→k≤T.length
 first:since[0]? = some 0
 texts:∀ (j k:Nat),since[j]? = some k→w.cell? ⟨sg,j,none⟩=some (.string (turnsB (T.drop k)))
 nums:∀ (j k:Nat),since[j]? = some k→w.cell? ⟨ng,j,none⟩=some (.int .i64 k)
 okT:TOk T
 most:T.length≤1000
section
variable {W:World} {N pb:Nat} {T:List (List RC)} {n sg scap ng ncap:Nat} {since:List Nat} {tm:Array Value}
end
end Go.Proofs.YtdianedehhecoaaGreatDoor