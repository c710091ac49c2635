/- Stretches of steps that are the same in every world: reckoned. -/
import Derived.Test.YtdianedehhecoaaGreatDoorTCoB
import Derived.Conc.JoinTrace
import Derived.Conc.MarkLaws
import Derived.Laws.Rows
import Derived.Conc.AtomicLaws
import Derived.Conc.AtomicLaws2
import Derived.Conc.SmallLaws
set_option linter.unusedSectionVars false
set_option linter.unusedVariables false
set_option linter.unusedSimpArgs false
set_option maxHeartbeats 2000000
set_option maxRecDepth 20000
namespace Go.Proofs.YtdianedehhecoaaGreatDoor.Co
variable [Loops]
open Go.Conc (G)
def tr (p:Program)(m:Bool):Nat→Goroutine→World→Option (List (Goroutine × World × Array Event))
 | 0,_,_=>some []
 | n+1,g,w=>match stepG p m g w with
  | .go g' w' es=>match tr p m n g' w' with
   | some l=>some ((g',w',es) :: l)
   | none=>none
  | _=>none
noncomputable def trL (p:Program)(m:Bool)(n:Nat)(g:Goroutine):List (Goroutine × Array Event):=((tr p m n g default).getD []).map fun x=>(x.1,x.2.2)
def Quiet (p:Program)(m:Bool):Goroutine→List (Goroutine × Array Event)→Prop
 | _,[]=>True
 | g,(g',es) :: l=>(∀ w,stepG p m g w=.go g' w es)∧Quiet p m g' l
theorem quiet_of_tr {p:Program}{m:Bool}:∀ (n:Nat)(g:Goroutine)(l:List (Goroutine × Array Event)),(∀ w,tr p m n g w=some (l.map fun x=>(x.1,w,x.2)))→Quiet p m g l:=by
 intro n
 induction n with
 | zero =>
  intro g l h
  have:=h default
  cases l with
  | nil=>trivial
  | cons x l=>simp[tr]at this
 | succ n ih =>
  intro g l h
  cases l with
  | nil=>trivial
  | cons x l =>
   obtain ⟨g',es⟩:=x
   have key:∀ w,stepG p m g w=.go g' w es∧tr p m n g' w=some (l.map fun x=>(x.1,w,x.2)):=fun w=>by
    have:=h w
    unfold tr at this
    split at this
    ·rename_i g1 w1 e1 hs
     split at this
     ·rename_i l1 hl
      simp only[List.map_cons,Option.some.injEq,List.cons.injEq,Prod.mk.injEq]at this
      obtain ⟨⟨rfl,rfl,rfl⟩,rfl⟩:=this
      exact ⟨hs,hl⟩
     ·cases this
    ·cases this
   exact ⟨fun w=>(key w).1,ih g' l fun w=>(key w).2⟩
def lastG (g:Goroutine):List (Goroutine × Array Event)→Goroutine
 | []=>g
 | (g',_) :: l=>lastG g' l
end Go.Proofs.YtdianedehhecoaaGreatDoor.Co
/- Within a stub's block: the two sides side by side. -/
namespace Go.Proofs.YtdianedehhecoaaGreatDoor.Co
variable [Loops]
open Go.Conc (G)
structure Rdy0 (Γ:Nat→Prop)(P:Two):Prop where
 fit:Fit Γ P
 own:Fit Γ P.self
structure BS {Γ:Nat→Prop}{P:Two}(T:Team Γ P)(Fin:Frame→World→Prop)(f0:Frame)(w0:World)(up cs:List Frame)(fs fg:Frame)(w:World) (δ:Nat)(c:Conf):Prop where
 tree:Tree P Fin fs up w
 ne:up≠[]
 oks:∀ x∈up,okF P x
 own:okF P.self fs
 main:T.At δ (G fg (up++cs)) c
 gh:Gh Γ w c.w
 path:∃ n,Path P Fin n f0 up w0 fs up w
section
variable {Γ:Nat→Prop} {P:Two} {T:Team Γ P} {Fin:Frame→World→Prop} {f0:Frame} {w0:World} {up cs:List Frame} {fs fg fs' fg':Frame} {w:World} {δ δ':Nat} {c:Conf}
theorem BS.notFin (h:BS T Fin f0 w0 up cs fs fg w δ c):¬ (up=[]∧Fin fs w):=fun x=>h.ne x.1
theorem BS.great (h:BS T Fin f0 w0 up cs fs fg w δ c){ev:Array Event}(hst:∀ W,stepG P.g T.main (G fg (up++cs)) W=.go (G fg' (up++cs)) W ev)(hm:∀ e∈ev,mild Γ e)(hd:Go.deafBehind δ ev=δ'):Leads P.g c (BS T Fin f0 w0 up cs fs fg' w δ') :=
 (T.turn (X:=fun g W=>g=G fg' (up++cs)∧Gh Γ w W) c rfl h.main (fun b hb=>⟨_,_,ev,hst _,hm,hd,fun _ _=>rfl,rfl,hb w h.gh⟩)).mono
  fun c' ⟨g,r1,e,r2⟩=>⟨h.tree,h.ne,h.oks,h.own,e▸r1,r2,h.path⟩
theorem BS.small (h:BS T Fin f0 w0 up cs fs fg w δ c)(hst:∀ W,stepG P.s true (G fs (up++[doom P])) W=.go (G fs' (up++[doom P])) W)(ho:okF P.self fs'):BS T Fin f0 w0 up cs fs' fg w δ c:=by
 have hs:Small P fs up w fs' up w:=⟨w.tape,w.drawn,by rw[hst];rfl⟩
 obtain ⟨n,hp⟩:=h.path
 exact ⟨h.tree.child h.notFin hs,h.ne,h.oks,ho,h.main,h.gh,⟨n+1,hp.trans ⟨h.notFin,_,_,_,hs,rfl,rfl,rfl⟩⟩⟩
theorem BS.never (h:BS T Fin f0 w0 up cs fs fg w δ c)(hst:∀ W,∃ o W',(stepG P.s true (G fs (up++[doom P])) W).bare=.ended o W'):False:=by
 obtain ⟨f1,u1,w1,e,_⟩:=h.tree.cases.resolve_left h.notFin (fun _ _=>0) 0
 obtain ⟨o,W',e2⟩:=hst (re w (fun _ _=>0) 0)
 rw[e2]at e
 cases e
theorem BS.oper (hF:Rdy0 Γ P)(hFin:∀ fr w,Fin fr w→¬ panF fr)(h:BS T Fin f0 w0 up cs fs fg w δ c){opsS opsG:Array Oper}{i:Nat}{restS restG:List Nat}{ks kg:List Item}{o:Oper}
  (hs:fs.todo=.inRegion opsS (i :: restS) :: ks)(hg:fg.todo=.inRegion opsG (i :: restG) :: kg)(hms:fs.mode=.run)(hmg:fg.mode=.run)(ht:fs.tmps=fg.tmps)(hrs:fs.roundOf=none)(hrg:fg.roundOf=none)
  (hoS:opsS[i]? = some o)(hoG:opsG[i]? = some o)(hgd:o.guard=none)(hok:okOp P.g o.op=true)(hval:∀ W n W',(execOp fs.eval o).run P.s W=.ok n W'→∃ v,n=.value v) :
  Leads P.g c fun c'=>∃ v w',BS T Fin f0 w0 up cs (fs.finish v) (fg.finish v) w' δ c'∧∃ W W',(execOp fs.eval o).run P.s W=.ok (.value v) W':=by
 have hev:fg.eval=fs.eval:=by funext x;cases x<;>simp[Frame.eval,ht]
 have hexec:∀ (p:Program) (m:Bool) (fr:Frame) (ds:List Frame) (ops:Array Oper) (rest:List Nat) (k:List Item) (W:World),ops[i]? = some o→fr.todo=.inRegion ops (i :: rest) :: k→fr.mode=.run→fr.roundOf=none→stepG p m (G fr ds) W=stepG.apply p true fr ds none (execOp fr.eval o) W:=fun p m fr ds ops rest k W ho h1 h2 h3=>by
  unfold stepG G
  simp only[h2]
  unfold stepG.exec
  rw[h1]
  dsimp only
  have hw:((ops[i]?).map (Region.wanted · (yielded ops fr.tmps))).getD false=true:=by rw[ho];simp[Region.wanted,hgd]
  rw[hw]
  show stepG.oper p true fr ds none W=_
  have e1:fr.oper? = some o:=by unfold Frame.oper?;rw[h1];exact ho
  unfold stepG.oper
  rw[e1,h3]
 have hturn:∀ bb,(∀ w,Gh Γ w c.w→Gh Γ w bb)→∃ a' b' ev,stepG P.g T.main (G fg (up++cs)) bb=.go a' b' ev∧(∀ e∈ev,mild Γ e)∧Go.deafBehind δ ev=δ∧(∀ j:Nat,Γ j→b'.heap[j]? = bb.heap[j]?) ∧
   ∃ v w',a'=G (fg.finish v) (up++cs)∧Gh Γ w' b'∧Small P fs up w (fs.finish v) up w'∧∃ W W',(execOp fs.eval o).run P.s W=.ok (.value v) W':=fun bb hbb=>by
  obtain ⟨k,r,ev,h1,h2⟩:=Kin.execOp (Kin.callFunc hF.fit.bars) fs.eval o hok w bb (hbb w h.gh) #[]
  have e0:=h1 bb.tape bb.drawn (fun _ _ _=>rfl)
  have hstep:stepG P.s true (G fs (up++[doom P])) (re w bb.tape bb.drawn)=stepG.apply P.s true fs (up++[doom P]) none (execOp fs.eval o) (re w bb.tape bb.drawn):=hexec _ _ _ _ _ _ _ _ hoS hs hms hrs
  obtain ⟨f1,u1,w1,e1,htree⟩:=h.tree.cases.resolve_left h.notFin bb.tape bb.drawn
  cases r with
  | ok n u =>
   obtain ⟨v,rfl⟩:=hval _ _ _ e0
   rcases h2 with h2|⟨⟨b',f1',f2,f3,f4,f5⟩,hsh,_⟩
   ·exact h2.elim
   obtain ⟨ev1,_,a1⟩:=apply_value (fr:=fs) (cs:=up++[doom P]) (runT_of e0)
   have f1'':(execOp fg.eval o).runT P.g bb #[]=(.ok (.value v) b',#[]++ev):=by rw[hev];exact f1'
   obtain ⟨ev2,m2,a2⟩:=apply_value (fr:=fg) (cs:=up++cs) f1''
   have hsh2:∀ e∈ev2,shuns Γ e:=fun e he=>hsh e (by simpa using m2 e he)
   refine ⟨_,b',ev2,(hexec _ _ _ _ _ _ _ _ hoG hg hmg hrg).trans a2,fun e he=>.inl (hsh2 e he),deaf_shuns hsh2 δ,f5,v,_,rfl,f2.re bb.tape (bb.drawn+k),⟨bb.tape,bb.drawn,?_⟩,_,_,e0⟩
   rw[hstep,a1];rfl
  | halt x u =>
   exfalso
   rcases h2 with h2|⟨⟨b',_,f2,_⟩,_,hfn⟩
   ·obtain ⟨o',W',q⟩:=apply_bad hF.fit (fr:=fs) (cs:=up++[doom P]) h2 e0
    rw[hstep,q]at e1
    cases e1
   ·obtain ⟨v,rfl⟩:=hfn x u rfl
    obtain ⟨ev1,_,a1⟩:=apply_panic (fr:=fs) (cs:=up++[doom P]) (runT_of e0)
    rw[hstep,a1]at e1
    simp only[GStep.bare_go,GStep.go.injEq]at e1
    obtain ⟨q1,q2⟩:=G_inj e1.1
    have q3:up=u1:=List.append_cancel_right q2
    subst q1 q3
    have hgu:Gh Γ w1 b':=by rw[← e1.2.1];exact Gh.re f2 _ _
    exact htree.noPan hF.own hFin hgu (okF_raise h.own _ one_unrec) (fun x hx=>okF_self (h.oks x hx)) ⟨_,List.mem_cons_self ..,panF_raise _ _⟩
 refine (T.turn (δ':=δ) (X:=fun g W=>∃ v w',g=G (fg.finish v) (up++cs)∧Gh Γ w' W∧Small P fs up w (fs.finish v) up w'∧∃ W W',(execOp fs.eval o).run P.s W=.ok (.value v) W') c rfl h.main hturn).mono ?_
 rintro c' ⟨g,r1,v,w',rfl,r2,r5,r7⟩
 obtain ⟨n,hp⟩:=h.path
 exact ⟨v,w',⟨h.tree.child h.notFin r5,h.ne,h.oks,okF_finish' h.own v,r1,r2,⟨n+1,hp.trans ⟨h.notFin,_,_,_,r5,rfl,rfl,rfl⟩⟩⟩,r7⟩
theorem BS.leave (hF:Rdy0 Γ P)(h:BS T Fin f0 w0 up cs fs fg w 0 c){sf fn:Func}(hsf:P.s.funcs[fs.fn]? = some sf)(hfn:P.g.funcs[fg.fn]? = some fn)(hrs:sf.results=#[])(hrg:fn.results=#[])
  (hms:fs.mode=.returning)(hmg:fg.mode=.returning)(hds:fs.defers=[])(hdg:fg.defers=[])(hk:fg.kind=fs.kind)(hkind:fs.kind=.normal∨fs.kind=.deferred) :
  Leads P.g c fun c'=>∃ n fr2 up2 w2,Path P Fin n f0 up w0 fr2 up2 w2∧okF P fr2∧(∀ x∈up2,okF P x)∧T.At 0 (G fr2 (up2++cs)) c'∧Gh Γ w2 c'.w:=by
 obtain ⟨x,up2,hup⟩:=List.exists_cons_of_ne_nil h.ne
 have hx:okF P x:=h.oks x (by rw[hup];simp)
  -- where a return of such a frame leads
 have hret:∃ fr',okF P fr'∧∀ (p:Program) (m:Bool) (fr:Frame) (ds:List Frame) (W:World),fr.kind=fs.kind→doReturn p m fr (x :: up2++ds) none (.tuple #[]) W=.go (G fr' (up2++ds)) W:=by
  rcases hkind with hk'|hk'
  ·exact ⟨x.finish (.tuple #[]),okF_finish' hx _,fun p m fr ds W e=>by unfold doReturn;rw[e,hk'];rfl⟩
  ·refine ⟨_,?_,fun p m fr ds W e=>by unfold doReturn;rw[e,hk'];rfl⟩
   split
   ·rename_i hm
    exact absurd (hx.unrec _ hm _ (List.mem_cons_self ..)) (by simp)
   ·exact hx
 obtain ⟨fr',hok',hr⟩:=hret
 have hun:∀ (p:Program) (m:Bool) (fr:Frame) (ds:List Frame) (g:Func) (W:World),p.funcs[fr.fn]? = some g→g.results=#[]→fr.mode=.returning→fr.defers=[]→fr.kind=fs.kind→stepG p m (G fr (x :: up2++ds)) W=.go (G fr' (up2++ds)) W:=fun p m fr ds g W e1 e2 e3 e4 e5=>by
  unfold stepG G
  simp only[e3]
  unfold unwind
  rw[e4,e3]
  dsimp only
  rw[e1]
  dsimp only
  have er:(results g fr.tmps).runT p W #[]=(.ok (.tuple #[]) W,#[]):=by rw[Sem.runT_eq,results_none e2,Go.Conc.events_results_none e2]
  rw[er]
  dsimp only
  rw[hr p m fr ds W e5,Go.Conc.seen_none]
  rfl
 have hs:Small P fs up w fr' up2 w:=⟨w.tape,w.drawn,by rw[hup,show x :: up2++[doom P]=x :: up2++[doom P] from rfl,hun P.s true fs [doom P] sf _ hsf hrs hms hds rfl];rfl⟩
 obtain ⟨n,hp⟩:=h.path
 refine (T.turn (δ':=0) (X:=fun g W=>g=G fr' (up2++cs)∧Gh Γ w W) c rfl h.main (fun b hb=>⟨_,_,#[],by rw[hup];exact hun P.g T.main fg cs fn _ hfn hrg hmg hdg hk,fun e he=>by simp at he,rfl,fun _ _=>rfl,rfl,hb w h.gh⟩)).mono ?_
 rintro c' ⟨g,r1,rfl,r2⟩
 exact ⟨n+1,fr',up2,w,hp.trans ⟨h.notFin,_,_,_,hs,rfl,rfl,rfl⟩,hok',fun y hy=>h.oks y (by rw[hup];simp[hy]),r1,r2⟩
end
end Go.Proofs.YtdianedehhecoaaGreatDoor.Co
/- The block of a lock that is free. -/
namespace Go.Proofs.YtdianedehhecoaaGreatDoor.Co
variable [Loops]
open Go.Conc (G)
section
variable {Γ:Nat→Prop} {P:Two} {T:Team Γ P} {Fin:Frame→World→Prop} {f0:Frame} {w0:World} {up cs:List Frame} {w:World} {δ δ':Nat} {c:Conf} {b:Frame} {a:Act} {ks kg ks' kg':List Item} {opsS opsG:Array Oper} {i:Nat} {restS restG:List Nat}
theorem BS.ctl (h:BS T Fin f0 w0 up cs (b.at a ks) (b.at a kg) w δ c)(hs:∀ W,stepG P.s true (G (b.at a ks) (up++[doom P])) W=.go (G (b.at a ks') (up++[doom P])) W)(hg:∀ W,stepG P.g T.main (G (b.at a kg) (up++cs)) W=.go (G (b.at a kg') (up++cs)) W)
  (hk:∀ i∈ks',okItem P.s i=true):Leads P.g c (BS T Fin f0 w0 up cs (b.at a ks') (b.at a kg') w δ) :=
 BS.great (h.small hs ⟨h.own.same,hk,h.own.defers,rfl,h.own.kind,fun ch e=>by cases e⟩) hg (fun e he=>by simp at he) rfl
theorem BS.says (h:BS T Fin f0 w0 up cs (b.at a (.inRegion opsS (i :: restS) :: ks)) (b.at a (.inRegion opsG (i :: restG) :: kg)) w δ c){oS oG:Oper}(hoS:opsS[i]? = some oS)(hoG:opsG[i]? = some oG)(hdst:oS.dst=oG.dst)(hgS:oS.guard=none)(hgG:oG.guard=none)(hke:b.kind≠.early)
  (hrS:∀ W,(execOp a.eval oS).run P.s W=.ok (.value (.tuple #[])) W)(hrG:∀ W,(execOp a.eval oG).run P.g W=.ok (.value (.tuple #[])) W){ev:Array Event}(hev:∀ W,Go.Conc.listed P.g b.fn a oG W=ev)(hevS:∀ W,Go.Conc.listed P.s b.fn a oS W=#[])
  (hm:∀ e∈ev,mild Γ e)(hd:Go.deafBehind δ ev=δ')(hk:∀ i∈Item.inRegion opsS restS :: ks,okItem P.s i=true) :
  Leads P.g c (BS T Fin f0 w0 up cs (b.at (a.put oS.dst (.tuple #[])) (.inRegion opsS restS :: ks)) (b.at (a.put oG.dst (.tuple #[])) (.inRegion opsG restG :: kg)) w δ'):=by
 have hwS:Region.wanted oS (yielded opsS a.tmps)=true:=by unfold Region.wanted;rw[hgS]
 have hwG:Region.wanted oG (yielded opsG a.tmps)=true:=by unfold Region.wanted;rw[hgG]
 refine BS.great (h.small (fs':=b.at (a.put oS.dst (.tuple #[])) (.inRegion opsS restS :: ks)) (fun W=>?_) ?_) (fun W=>?_) hm hd
 ·rw[Go.Conc.stepG_value hoS hwS hke (hrS W),hevS]
 ·refine ⟨h.own.same,hk,?_,rfl,h.own.kind,fun ch e=>by cases e⟩
  have:=h.own.defers
  cases hdd:oS.dst<;>simpa [Frame.at,Act.put] using this
 ·rw[Go.Conc.stepG_value hoG hwG hke (hrG W),hev]
theorem BS.op (hF:Rdy0 Γ P)(hFin:∀ fr w,Fin fr w→¬ panF fr)(h:BS T Fin f0 w0 up cs (b.at a (.inRegion opsS (i :: restS) :: ks)) (b.at a (.inRegion opsG (i :: restG) :: kg)) w δ c){o:Oper}(hoS:opsS[i]? = some o)(hoG:opsG[i]? = some o)(hgd:o.guard=none)(hok:okOp P.g o.op=true)
  (hval:∀ W n W',(execOp a.eval o).run P.s W=.ok n W'→∃ v,n=.value v) :
  Leads P.g c fun c'=>∃ v w',BS T Fin f0 w0 up cs (b.at (a.put o.dst v) (.inRegion opsS restS :: ks)) (b.at (a.put o.dst v) (.inRegion opsG restG :: kg)) w' δ c'∧∃ W W',(execOp a.eval o).run P.s W=.ok (.value v) W':=by
 have he:(b.at a (.inRegion opsS (i :: restS) :: ks)).eval=a.eval:=Frame.eval_at' _ _ _
 refine (BS.oper hF hFin h (o:=o) rfl rfl rfl rfl rfl rfl rfl hoS hoG hgd hok (by rw[he];exact hval)).mono ?_
 rintro c' ⟨v,w',h1,h2⟩
 rw[Frame.finish_at,Frame.finish_at,hoS,hoG]at h1
 rw[he]at h2
 exact ⟨v,w',h1,h2⟩
structure LockAt (P:Two)(f:Nat) where
 sf:Func
 fn:Func
 hs:P.fs[f]? = some sf
 hg:P.fg[f]? = some fn
 nt:sf.ntmps=fn.ntmps
 rs:sf.results=#[]
 rg:fn.results=#[]
 i0:Nat
 i1:Nat
 i2:Nat
 i3:Nat
 i4:Nat
 s0:Oper
 g0:Oper
 s2:Oper
 g2:Oper
 s3:Oper
 g3:Oper
 p0:Oper
 p1:Oper
 p2:Oper
 p3:Oper
 m3:Oper
 v3:Oper
 q0:Oper
 q1:Oper
 bs:sf.body=some (.seq (.region i0 #[s0] false) (.seq (.seq (.region i1 #[p0,p1,p2,p3] false) (.cond (.tmp 6) (.seq (.cond (.const (.bool true)) (.seq (.region i2 #[s2] false) (.region i3 #[m3,v3,s3] false)) .skip) .ret) .skip)) (.region i4 #[q0,q1] false)))
 bg:fn.body=some (.seq (.region i0 #[g0] false) (.seq (.seq (.region i1 #[p0,p1,p2,p3] false) (.cond (.tmp 6) (.seq (.cond (.const (.bool true)) (.seq (.region i2 #[g2] false) (.region i3 #[m3,v3,g3] false)) .skip) .ret) .skip)) (.region i4 #[q0,q1] false)))
 free:∀ o∈[s0,g0,s2,g2,s3,g3,p0,p1,p2,p3,m3,v3,q0,q1],o.guard=none
 okS:∀ o∈[s0,s2,s3,p0,p1,p2,p3,m3,v3,q0,q1],okOp P.s o.op=true
 okG:∀ o∈[p0,p1,p2,p3,m3,v3,q0,q1],okOp P.g o.op=true
 dst:s0.dst=g0.dst∧s2.dst=g2.dst∧s3.dst=g3.dst
 mute:∀ o∈[s0,s2,s3],∀ (a:Act) (W:World) (fn:FuncId),(execOp a.eval o).run P.s W=.ok (.value (.tuple #[])) W∧Go.Conc.listed P.s fn a o W=#[]
 dis:∀ (a:Act) (W:World),(execOp a.eval g0).run P.g W=.ok (.value (.tuple #[])) W∧Go.Conc.listed P.g f a g0 W=#[⟨.mark .disable,false,true⟩]
 ena:∀ (a:Act) (W:World),(execOp a.eval g2).run P.g W=.ok (.value (.tuple #[])) W∧Go.Conc.listed P.g f a g2 W=#[⟨.mark .enable,false,true⟩]
 vals:∀ o∈[p0,p1,p2,p3,m3,v3,q0],∀ (a:Act) W n W',(execOp a.eval o).run P.s W=.ok n W'→∃ v,n=.value v
 slow:∀ (a:Act) W,∃ x,badH x∧(execOp a.eval q1).run P.s W=.halt x W
 nt13:sf.ntmps=13
 acq:∀ (a:Act),13≤a.tmps.size→∀ (x4 x5 x6 x7 x8 x9:Value) W1 W1' W2 W2' W3 W3' W4 W4' W5 W5' W6 W6',
  (execOp a.eval p0).run P.s W1=.ok (.value x4) W1'→(execOp (a.put p0.dst x4).eval p1).run P.s W2=.ok (.value x5) W2'→(execOp ((a.put p0.dst x4).put p1.dst x5).eval p2).run P.s W3=.ok (.value x6) W3' →
  (execOp (((a.put p0.dst x4).put p1.dst x5).put p2.dst x6).eval p3).run P.s W4=.ok (.value x7) W4' →
  (execOp (((((a.put p0.dst x4).put p1.dst x5).put p2.dst x6).put p3.dst x7).put s2.dst (.tuple #[])).eval m3).run P.s W5=.ok (.value x8) W5' →
  (execOp ((((((a.put p0.dst x4).put p1.dst x5).put p2.dst x6).put p3.dst x7).put s2.dst (.tuple #[])).put m3.dst x8).eval v3).run P.s W6=.ok (.value x9) W6' →
  ∃ ad:Addr,∀ W,(execOp (((((((a.put p0.dst x4).put p1.dst x5).put p2.dst x6).put p3.dst x7).put s2.dst (.tuple #[])).put m3.dst x8).put v3.dst x9).eval g3).run P.g W=.ok (.value (.tuple #[])) W ∧
   Go.Conc.listed P.g f (((((((a.put p0.dst x4).put p1.dst x5).put p2.dst x6).put p3.dst x7).put s2.dst (.tuple #[])).put m3.dst x8).put v3.dst x9) g3 W=#[⟨.mark (.acquire ad),false,true⟩]
def bk (f:Nat)(k:CallKind):Frame:={ (default:Frame) with fn:=f,kind:=k }
theorem enter_bk {p:Program}{f:Nat}{fn:Func}{x:Code}(v:Array Value)(k:CallKind)(hf:p.funcs[f]? = some fn)(hb:fn.body=some x):Frame.enter p f v k=(bk f k).at { tmps:=v++Array.replicate (fn.ntmps-v.size) undef,defers:=[] } [.code x]:=by
 simp[Frame.enter,Frame.at,hf,hb,bk]
theorem put_defers (a:Act)(d:Option Tmp)(v:Value):(a.put d v).defers=a.defers:=by
 cases d<;>rfl
theorem cond_stuck {p:Program}{m:Bool}{b:Frame}{a:Act}{o:Operand}{x y:Code}{k:List Item}{cs:List Frame}(h:¬ ∃ t,a.eval o=.bool t)(W:World):∃ e W',(stepG p m (G (b.at a (.code (.cond o x y) :: k)) cs) W).bare=.ended e W':=by
 have he:(b.at a (.code (.cond o x y) :: k)).eval o=a.eval o:=Frame.eval_at _ _ _ _
 have e:stepG p m (G (b.at a (.code (.cond o x y) :: k)) cs) W=stepG.exec p m true (b.at a (.code (.cond o x y) :: k)) cs none W:=rfl
 rw[e]
 unfold stepG.exec
 have ht:(b.at a (.code (.cond o x y) :: k)).todo=.code (.cond o x y) :: k:=rfl
 rw[ht]
 dsimp only
 split
 ·rename_i t heq
  exact absurd ⟨t,he▸heq⟩ h
 ·exact ⟨_,_,rfl⟩
theorem op_stuck {b:Frame}{a:Act}{ops:Array Oper}{i:Nat}{rest:List Nat}{o:Oper}{k:List Item}{cs:List Frame}(hF:Fit Γ P)(ho:ops[i]? = some o)(hgd:o.guard=none)(h:∀ W,∃ x,badH x∧(execOp a.eval o).run P.s W=.halt x W)(W:World):∃ e W',(stepG P.s true (G (b.at a (.inRegion ops (i :: rest) :: k)) cs) W).bare=.ended e W':=by
 have hw:Region.wanted o (yielded ops a.tmps)=true:=by unfold Region.wanted;rw[hgd]
 rw[Go.Conc.stepG_oper ho hw]
 obtain ⟨x,hx,hr⟩:=h W
 exact apply_bad hF hx hr
theorem put_size (a:Act)(d:Option Tmp)(v:Value):(a.put d v).tmps.size=a.tmps.size:=by
 cases d<;>simp[Act.put]
theorem lock_block (hF:Rdy0 Γ P)(hFin:∀ fr w,Fin fr w→¬ panF fr){f:Nat}(L:LockAt P f){v:Array Value}{k:CallKind}(hk:k=.normal∨k=.deferred)
  (h:BS T Fin (Frame.enter P.s f v k) w up cs (Frame.enter P.s f v k) (Frame.enter P.g f v k) w 0 c) :
  Leads P.g c fun c'=>∃ n fr2 up2 w2,Path P Fin n (Frame.enter P.s f v k) up w fr2 up2 w2∧okF P fr2∧(∀ x∈up2,okF P x)∧T.At 0 (G fr2 (up2++cs)) c'∧Gh Γ w2 c'.w:=by
 generalize hf0:Frame.enter P.s f v k=f0 at h
 have e1:f0=(bk f k).at { tmps:=v++Array.replicate (L.sf.ntmps-v.size) undef,defers:=[] } [.code _]:=hf0▸enter_bk v k (show P.s.funcs[f]? = some L.sf from L.hs) L.bs
 have e2:=enter_bk v k (show P.g.funcs[f]? = some L.fn from L.hg) L.bg
 rw[← L.nt]at e2
 rw[e2]at h
 have hsz:13≤(v++Array.replicate (L.sf.ntmps-v.size) undef).size:=by rw[L.nt13];simp;omega
 have h:=h
 conv at h=>arg 7;rw[e1]
 generalize ha:({ tmps:=v++Array.replicate (L.sf.ntmps-v.size) undef,defers:=[] }:Act)=a0 at h
 have hsz0:13≤a0.tmps.size:=by rw[← ha];exact hsz
 have hda:a0.defers=[]:=by rw[← ha]
 have hke:(bk f k).kind≠.early:=by rcases hk with rfl|rfl<;>(intro e;cases e)
 have k0:=L.okS L.s0 (by simp)
 have k2:=L.okS L.s2 (by simp)
 have k3:=L.okS L.s3 (by simp)
 have kp0:=L.okS L.p0 (by simp)
 have kp1:=L.okS L.p1 (by simp)
 have kp2:=L.okS L.p2 (by simp)
 have kp3:=L.okS L.p3 (by simp)
 have km:=L.okS L.m3 (by simp)
 have kv:=L.okS L.v3 (by simp)
 have kq0:=L.okS L.q0 (by simp)
 have kq1:=L.okS L.q1 (by simp)
 obtain ⟨d0,d2,d3⟩:=L.dst
  -- region 0: the great side goes deaf
 refine (h.ctl (fun W=>Go.Conc.stepG_seq) (fun W=>Go.Conc.stepG_seq) (by simp[okItem,okC,k0,k2,k3,kp0,kp1,kp2,kp3,km,kv,kq0,kq1])).trans fun c1 h=>?_
 refine (h.ctl (fun W=>Go.Conc.stepG_region) (fun W=>Go.Conc.stepG_region) (by simp[okItem,okC,k0,k2,k3,kp0,kp1,kp2,kp3,km,kv,kq0,kq1])).trans fun c1 h=>?_
 refine (BS.says (restS:=[]) (restG:=[]) h (oS:=L.s0) (oG:=L.g0) rfl rfl d0 (L.free _ (by simp)) (L.free _ (by simp)) hke (fun W=>(L.mute _ (by simp) a0 W f).1) (fun W=>(L.dis a0 W).1) (fun W=>(L.dis a0 W).2) (fun W=>(L.mute _ (by simp) a0 W f).2)
  (fun e he=>by rw[Array.mem_singleton]at he;subst he;exact .inr (.inl rfl)) (δ':=1) rfl (by simp[okItem,okC,k0,k2,k3,kp0,kp1,kp2,kp3,km,kv,kq0,kq1])).trans fun c1 h=>?_
 rw[← d0]at h
 refine (h.ctl (fun W=>Go.Conc.stepG_region_end) (fun W=>Go.Conc.stepG_region_end) (by simp[okItem,okC,k0,k2,k3,kp0,kp1,kp2,kp3,km,kv,kq0,kq1])).trans fun c1 h=>?_
 refine (h.ctl (fun W=>Go.Conc.stepG_seq) (fun W=>Go.Conc.stepG_seq) (by simp[okItem,okC,k0,k2,k3,kp0,kp1,kp2,kp3,km,kv,kq0,kq1])).trans fun c1 h=>?_
 refine (h.ctl (fun W=>Go.Conc.stepG_seq) (fun W=>Go.Conc.stepG_seq) (by simp[okItem,okC,k0,k2,k3,kp0,kp1,kp2,kp3,km,kv,kq0,kq1])).trans fun c1 h=>?_
 refine (h.ctl (fun W=>Go.Conc.stepG_region) (fun W=>Go.Conc.stepG_region) (by simp[okItem,okC,k0,k2,k3,kp0,kp1,kp2,kp3,km,kv,kq0,kq1])).trans fun c1 h=>?_
 have hsz1:13≤(a0.put L.s0.dst (.tuple #[])).tmps.size:=by rw[put_size];exact hsz0
 have hd1:(a0.put L.s0.dst (.tuple #[])).defers=[]:=by rw[put_defers];exact hda
 generalize a0.put L.s0.dst (.tuple #[])=a1 at h hsz1 hd1
  -- the four operations of the compare-and-swap
 refine (BS.op (restS:=[1,2,3]) (restG:=[1,2,3]) hF hFin h (o:=L.p0) rfl rfl (L.free _ (by simp)) (L.okG _ (by simp)) (L.vals _ (by simp) _)).trans ?_
 rintro c1 ⟨x4,w1,h,W1,W1',r1⟩
 refine (BS.op (restS:=[2,3]) (restG:=[2,3]) hF hFin h (o:=L.p1) rfl rfl (L.free _ (by simp)) (L.okG _ (by simp)) (L.vals _ (by simp) _)).trans ?_
 rintro c1 ⟨x5,w1,h,W2,W2',r2⟩
 refine (BS.op (restS:=[3]) (restG:=[3]) hF hFin h (o:=L.p2) rfl rfl (L.free _ (by simp)) (L.okG _ (by simp)) (L.vals _ (by simp) _)).trans ?_
 rintro c1 ⟨x6,w1,h,W3,W3',r3⟩
 refine (BS.op (restS:=[]) (restG:=[]) hF hFin h (o:=L.p3) rfl rfl (L.free _ (by simp)) (L.okG _ (by simp)) (L.vals _ (by simp) _)).trans ?_
 rintro c1 ⟨x7,w1,h,W4,W4',r4⟩
 refine (h.ctl (fun W=>Go.Conc.stepG_region_end) (fun W=>Go.Conc.stepG_region_end) (by simp[okItem,okC,k0,k2,k3,kp0,kp1,kp2,kp3,km,kv,kq0,kq1])).trans fun c1 h=>?_
 have hsz2:13≤((((a1.put L.p0.dst x4).put L.p1.dst x5).put L.p2.dst x6).put L.p3.dst x7).tmps.size:=by rw[put_size,put_size,put_size,put_size];exact hsz1
 generalize hy:((((a1.put L.p0.dst x4).put L.p1.dst x5).put L.p2.dst x6).put L.p3.dst x7).eval (.tmp 6)=y
 by_cases hb:∃ t,y=.bool t
 ·obtain ⟨t,rfl⟩:=hb
  cases t with
  | false =>
      -- the lock is held: the slow path is barred
   refine (h.ctl (fun W=>Go.Conc.stepG_cond hy) (fun W=>Go.Conc.stepG_cond hy) (by simp[okItem,okC,k0,k2,k3,kp0,kp1,kp2,kp3,km,kv,kq0,kq1])).trans fun c1 h=>?_
   simp only[Bool.false_eq_true,if_false]at h
   refine (h.ctl (fun W=>Go.Conc.stepG_skip) (fun W=>Go.Conc.stepG_skip) (by simp[okItem,okC,k0,k2,k3,kp0,kp1,kp2,kp3,km,kv,kq0,kq1])).trans fun c1 h=>?_
   refine (h.ctl (fun W=>Go.Conc.stepG_region) (fun W=>Go.Conc.stepG_region) (by simp[okItem,okC,k0,k2,k3,kp0,kp1,kp2,kp3,km,kv,kq0,kq1])).trans fun c1 h=>?_
   refine (BS.op (restS:=[1]) (restG:=[1]) hF hFin h (o:=L.q0) rfl rfl (L.free _ (by simp)) (L.okG _ (by simp)) (L.vals _ (by simp) _)).trans ?_
   rintro c1 ⟨x8,w1,h,_⟩
   exact (h.never (op_stuck hF.fit (o:=L.q1) rfl (L.free _ (by simp)) (L.slow _))).elim
  | true =>
   refine (h.ctl (fun W=>Go.Conc.stepG_cond hy) (fun W=>Go.Conc.stepG_cond hy) (by simp[okItem,okC,k0,k2,k3,kp0,kp1,kp2,kp3,km,kv,kq0,kq1])).trans fun c1 h=>?_
   simp only[if_true]at h
   refine (h.ctl (fun W=>Go.Conc.stepG_seq) (fun W=>Go.Conc.stepG_seq) (by simp[okItem,okC,k0,k2,k3,kp0,kp1,kp2,kp3,km,kv,kq0,kq1])).trans fun c1 h=>?_
   refine (h.ctl (fun W=>Go.Conc.stepG_cond (t:=true) rfl) (fun W=>Go.Conc.stepG_cond (t:=true) rfl) (by simp[okItem,okC,k0,k2,k3,kp0,kp1,kp2,kp3,km,kv,kq0,kq1])).trans fun c1 h=>?_
   simp only[if_true]at h
   refine (h.ctl (fun W=>Go.Conc.stepG_seq) (fun W=>Go.Conc.stepG_seq) (by simp[okItem,okC,k0,k2,k3,kp0,kp1,kp2,kp3,km,kv,kq0,kq1])).trans fun c1 h=>?_
   refine (h.ctl (fun W=>Go.Conc.stepG_region) (fun W=>Go.Conc.stepG_region) (by simp[okItem,okC,k0,k2,k3,kp0,kp1,kp2,kp3,km,kv,kq0,kq1])).trans fun c1 h=>?_
   refine (BS.says (restS:=[]) (restG:=[]) h (oS:=L.s2) (oG:=L.g2) rfl rfl d2 (L.free _ (by simp)) (L.free _ (by simp)) hke (fun W=>(L.mute _ (by simp) _ W f).1) (fun W=>(L.ena _ W).1) (fun W=>(L.ena _ W).2) (fun W=>(L.mute _ (by simp) _ W f).2)
    (fun e he=>by rw[Array.mem_singleton]at he;subst he;exact .inr (.inr (.inl rfl))) (δ':=0) rfl (by simp[okItem,okC,k0,k2,k3,kp0,kp1,kp2,kp3,km,kv,kq0,kq1])).trans fun c1 h=>?_
   rw[← d2]at h
   refine (h.ctl (fun W=>Go.Conc.stepG_region_end) (fun W=>Go.Conc.stepG_region_end) (by simp[okItem,okC,k0,k2,k3,kp0,kp1,kp2,kp3,km,kv,kq0,kq1])).trans fun c1 h=>?_
   refine (h.ctl (fun W=>Go.Conc.stepG_region) (fun W=>Go.Conc.stepG_region) (by simp[okItem,okC,k0,k2,k3,kp0,kp1,kp2,kp3,km,kv,kq0,kq1])).trans fun c1 h=>?_
   refine (BS.op (restS:=[1,2]) (restG:=[1,2]) hF hFin h (o:=L.m3) rfl rfl (L.free _ (by simp)) (L.okG _ (by simp)) (L.vals _ (by simp) _)).trans ?_
   rintro c1 ⟨x8,w1,h,W5,W5',r5⟩
   refine (BS.op (restS:=[2]) (restG:=[2]) hF hFin h (o:=L.v3) rfl rfl (L.free _ (by simp)) (L.okG _ (by simp)) (L.vals _ (by simp) _)).trans ?_
   rintro c1 ⟨x9,w1,h,W6,W6',r6⟩
   obtain ⟨ad,hacq⟩:=L.acq a1 hsz1 x4 x5 x6 x7 x8 x9 W1 W1' W2 W2' W3 W3' W4 W4' W5 W5' W6 W6' r1 r2 r3 r4 r5 r6
   refine (BS.says (restS:=[]) (restG:=[]) h (oS:=L.s3) (oG:=L.g3) rfl rfl d3 (L.free _ (by simp)) (L.free _ (by simp)) hke (fun W=>(L.mute _ (by simp) _ W f).1) (fun W=>(hacq W).1) (fun W=>(hacq W).2) (fun W=>(L.mute _ (by simp) _ W f).2)
    (fun e he=>by rw[Array.mem_singleton]at he;subst he;exact .inr (.inr (.inr (.inl ⟨ad,rfl⟩)))) (δ':=0) rfl (by simp[okItem,okC,k0,k2,k3,kp0,kp1,kp2,kp3,km,kv,kq0,kq1])).trans fun c1 h=>?_
   rw[← d3]at h
   refine (h.ctl (fun W=>Go.Conc.stepG_region_end) (fun W=>Go.Conc.stepG_region_end) (by simp[okItem,okC,k0,k2,k3,kp0,kp1,kp2,kp3,km,kv,kq0,kq1])).trans fun c1 h=>?_
   have ho:=h.own
   refine (BS.great (h.small (fun W=>Go.Conc.stepG_ret') (okF_ret ho)) (fun W=>Go.Conc.stepG_ret') (fun e he=>by simp at he) (δ':=0) rfl).trans fun c1 h=>?_
   refine (BS.leave hF h (sf:=L.sf) (fn:=L.fn) L.hs L.hg L.rs L.rg rfl rfl ?_ ?_ rfl hk).mono ?_
   ·simp only[Frame.at,put_defers];exact hd1
   ·simp only[Frame.at,put_defers];exact hd1
   ·rintro c' ⟨n,fr2,up2,w2,q⟩
    exact ⟨n,fr2,up2,w2,hf0▸q⟩
 ·exfalso
  exact h.never (cond_stuck (by rw[hy];exact hb))
end
end Go.Proofs.YtdianedehhecoaaGreatDoor.Co
/- The block of Unlock. -/
namespace Go.Proofs.YtdianedehhecoaaGreatDoor.Co
variable [Loops]
open Go.Conc (G)
section
variable {Γ:Nat→Prop} {P:Two} {T:Team Γ P} {Fin:Frame→World→Prop} {up cs:List Frame} {w:World} {c:Conf}
structure UnlockAt (P:Two)(f:Nat) where
 sf:Func
 fn:Func
 hs:P.fs[f]? = some sf
 hg:P.fg[f]? = some fn
 nt:sf.ntmps=fn.ntmps
 rs:sf.results=#[]
 rg:fn.results=#[]
 i0:Nat
 i1:Nat
 i2:Nat
 i3:Nat
 i4:Nat
 i5:Nat
 i6:Nat
 p0:Oper
 p1:Oper
 p2:Oper
 p3:Oper
 m1:Oper
 v1:Oper
 s1:Oper
 g1:Oper
 s2:Oper
 g2:Oper
 r0:Oper
 r1:Oper
 r2:Oper
 r3:Oper
 r4:Oper
 t0:Oper
 t1:Oper
 q0:Oper
 q1:Oper
 q2:Oper
 s6:Oper
 g6:Oper
 bs:sf.body=some (.seq (.cond (.const (.bool true)) (.seq (.region i0 #[p0,p1,p2,p3] false) (.seq (.region i1 #[m1,v1,s1] false) (.region i2 #[s2] false))) .skip) (.seq (.region i3 #[r0,r1,r2,r3,r4] false) (.seq (.seq (.region i4 #[t0,t1] false) (.cond (.tmp 16) (.region i5 #[q0,q1,q2] false) .skip)) (.region i6 #[s6] false))))
 bg:fn.body=some (.seq (.cond (.const (.bool true)) (.seq (.region i0 #[p0,p1,p2,p3] false) (.seq (.region i1 #[m1,v1,g1] false) (.region i2 #[g2] false))) .skip) (.seq (.region i3 #[r0,r1,r2,r3,r4] false) (.seq (.seq (.region i4 #[t0,t1] false) (.cond (.tmp 16) (.region i5 #[q0,q1,q2] false) .skip)) (.region i6 #[g6] false))))
 free:∀ o∈[p0,p1,p2,p3,m1,v1,s1,g1,s2,g2,r0,r1,r2,r3,r4,t0,t1,q0,q1,q2,s6,g6],o.guard=none
 okS:∀ o∈[p0,p1,p2,p3,m1,v1,s1,s2,r0,r1,r2,r3,r4,t0,t1,q0,q1,q2,s6],okOp P.s o.op=true
 okG:∀ o∈[p0,p1,p2,p3,m1,v1,r0,r1,r2,r3,r4,t0,t1,q0,q1],okOp P.g o.op=true
 dst:s1.dst=g1.dst∧s2.dst=g2.dst∧s6.dst=g6.dst
 mute:∀ o∈[s1,s2,s6],∀ (a:Act) (W:World) (fn:FuncId),(execOp a.eval o).run P.s W=.ok (.value (.tuple #[])) W∧Go.Conc.listed P.s fn a o W=#[]
 dis:∀ (a:Act) (W:World),(execOp a.eval g2).run P.g W=.ok (.value (.tuple #[])) W∧Go.Conc.listed P.g f a g2 W=#[⟨.mark .disable,false,true⟩]
 ena:∀ (a:Act) (W:World),(execOp a.eval g6).run P.g W=.ok (.value (.tuple #[])) W∧Go.Conc.listed P.g f a g6 W=#[⟨.mark .enable,false,true⟩]
 vals:∀ o∈[p0,p1,p2,p3,m1,v1,r0,r1,r2,r3,r4,t0,t1,q0,q1],∀ (a:Act) W n W',(execOp a.eval o).run P.s W=.ok n W'→∃ v,n=.value v
 slow:∀ (a:Act) W,∃ x,badH x∧(execOp a.eval q2).run P.s W=.halt x W
 nt21:sf.ntmps=21
 rel:∀ (a:Act),21≤a.tmps.size→∀ (x4 x5 x6 x7 x8 x9:Value) W1 W1' W2 W2' W3 W3' W4 W4' W5 W5' W6 W6',
  (execOp a.eval p0).run P.s W1=.ok (.value x4) W1'→(execOp (a.put p0.dst x4).eval p1).run P.s W2=.ok (.value x5) W2'→(execOp ((a.put p0.dst x4).put p1.dst x5).eval p2).run P.s W3=.ok (.value x6) W3' →
  (execOp (((a.put p0.dst x4).put p1.dst x5).put p2.dst x6).eval p3).run P.s W4=.ok (.value x7) W4' →
  (execOp ((((a.put p0.dst x4).put p1.dst x5).put p2.dst x6).put p3.dst x7).eval m1).run P.s W5=.ok (.value x8) W5' →
  (execOp (((((a.put p0.dst x4).put p1.dst x5).put p2.dst x6).put p3.dst x7).put m1.dst x8).eval v1).run P.s W6=.ok (.value x9) W6' →
  ∃ ad:Addr,∀ W,(execOp ((((((a.put p0.dst x4).put p1.dst x5).put p2.dst x6).put p3.dst x7).put m1.dst x8).put v1.dst x9).eval g1).run P.g W=.ok (.value (.tuple #[])) W ∧
   Go.Conc.listed P.g f ((((((a.put p0.dst x4).put p1.dst x5).put p2.dst x6).put p3.dst x7).put m1.dst x8).put v1.dst x9) g1 W=#[⟨.mark (.releaseMerge ad),false,true⟩]
theorem unlock_block (hF:Rdy0 Γ P)(hFin:∀ fr w,Fin fr w→¬ panF fr){f:Nat}(L:UnlockAt P f){v:Array Value}{k:CallKind}(hk:k=.normal∨k=.deferred)
  (h:BS T Fin (Frame.enter P.s f v k) w up cs (Frame.enter P.s f v k) (Frame.enter P.g f v k) w 0 c) :
  Leads P.g c fun c'=>∃ n fr2 up2 w2,Path P Fin n (Frame.enter P.s f v k) up w fr2 up2 w2∧okF P fr2∧(∀ x∈up2,okF P x)∧T.At 0 (G fr2 (up2++cs)) c'∧Gh Γ w2 c'.w:=by
 generalize hf0:Frame.enter P.s f v k=f0 at h
 have e1:f0=(bk f k).at { tmps:=v++Array.replicate (L.sf.ntmps-v.size) undef,defers:=[] } [.code _]:=hf0▸enter_bk v k (show P.s.funcs[f]? = some L.sf from L.hs) L.bs
 have e2:=enter_bk v k (show P.g.funcs[f]? = some L.fn from L.hg) L.bg
 rw[← L.nt]at e2
 rw[e2]at h
 have hsz:21≤(v++Array.replicate (L.sf.ntmps-v.size) undef).size:=by rw[L.nt21];simp;omega
 have h:=h
 conv at h=>arg 7;rw[e1]
 generalize ha:({ tmps:=v++Array.replicate (L.sf.ntmps-v.size) undef,defers:=[] }:Act)=a1 at h
 have hsz1:21≤a1.tmps.size:=by rw[← ha];exact hsz
 have hd1:a1.defers=[]:=by rw[← ha]
 have hke:(bk f k).kind≠.early:=by rcases hk with rfl|rfl<;>(intro e;cases e)
 have a0:=L.okS L.p0 (by simp)
 have a1':=L.okS L.p1 (by simp)
 have a2:=L.okS L.p2 (by simp)
 have a3:=L.okS L.p3 (by simp)
 have a4:=L.okS L.m1 (by simp)
 have a5:=L.okS L.v1 (by simp)
 have a6:=L.okS L.s1 (by simp)
 have a7:=L.okS L.s2 (by simp)
 have b0:=L.okS L.r0 (by simp)
 have b1:=L.okS L.r1 (by simp)
 have b2:=L.okS L.r2 (by simp)
 have b3:=L.okS L.r3 (by simp)
 have b4:=L.okS L.r4 (by simp)
 have b5:=L.okS L.t0 (by simp)
 have b6:=L.okS L.t1 (by simp)
 have b7:=L.okS L.q0 (by simp)
 have b8:=L.okS L.q1 (by simp)
 have b9:=L.okS L.q2 (by simp)
 have b10:=L.okS L.s6 (by simp)
 obtain ⟨d1,d2,d6⟩:=L.dst
 refine (h.ctl (fun W=>Go.Conc.stepG_seq) (fun W=>Go.Conc.stepG_seq) (by simp[okItem,okC,a0,a1',a2,a3,a4,a5,a6,a7,b0,b1,b2,b3,b4,b5,b6,b7,b8,b9,b10])).trans fun c1 h=>?_
 refine (h.ctl (fun W=>Go.Conc.stepG_cond (t:=true) rfl) (fun W=>Go.Conc.stepG_cond (t:=true) rfl) (by simp[okItem,okC,a0,a1',a2,a3,a4,a5,a6,a7,b0,b1,b2,b3,b4,b5,b6,b7,b8,b9,b10])).trans fun c1 h=>?_
 simp only[if_true]at h
 refine (h.ctl (fun W=>Go.Conc.stepG_seq) (fun W=>Go.Conc.stepG_seq) (by simp[okItem,okC,a0,a1',a2,a3,a4,a5,a6,a7,b0,b1,b2,b3,b4,b5,b6,b7,b8,b9,b10])).trans fun c1 h=>?_
 refine (h.ctl (fun W=>Go.Conc.stepG_region) (fun W=>Go.Conc.stepG_region) (by simp[okItem,okC,a0,a1',a2,a3,a4,a5,a6,a7,b0,b1,b2,b3,b4,b5,b6,b7,b8,b9,b10])).trans fun c1 h=>?_
 refine (BS.op (restS:=[1,2,3]) (restG:=[1,2,3]) hF hFin h (o:=L.p0) rfl rfl (L.free _ (by simp)) (L.okG _ (by simp)) (L.vals _ (by simp) _)).trans ?_
 rintro c1 ⟨x4,w1,h,W1,W1',r1⟩
 refine (BS.op (restS:=[2,3]) (restG:=[2,3]) hF hFin h (o:=L.p1) rfl rfl (L.free _ (by simp)) (L.okG _ (by simp)) (L.vals _ (by simp) _)).trans ?_
 rintro c1 ⟨x5,w1,h,W2,W2',r2⟩
 refine (BS.op (restS:=[3]) (restG:=[3]) hF hFin h (o:=L.p2) rfl rfl (L.free _ (by simp)) (L.okG _ (by simp)) (L.vals _ (by simp) _)).trans ?_
 rintro c1 ⟨x6,w1,h,W3,W3',r3⟩
 refine (BS.op (restS:=[]) (restG:=[]) hF hFin h (o:=L.p3) rfl rfl (L.free _ (by simp)) (L.okG _ (by simp)) (L.vals _ (by simp) _)).trans ?_
 rintro c1 ⟨x7,w1,h,W4,W4',r4⟩
 refine (h.ctl (fun W=>Go.Conc.stepG_region_end) (fun W=>Go.Conc.stepG_region_end) (by simp[okItem,okC,a0,a1',a2,a3,a4,a5,a6,a7,b0,b1,b2,b3,b4,b5,b6,b7,b8,b9,b10])).trans fun c1 h=>?_
 refine (h.ctl (fun W=>Go.Conc.stepG_seq) (fun W=>Go.Conc.stepG_seq) (by simp[okItem,okC,a0,a1',a2,a3,a4,a5,a6,a7,b0,b1,b2,b3,b4,b5,b6,b7,b8,b9,b10])).trans fun c1 h=>?_
 refine (h.ctl (fun W=>Go.Conc.stepG_region) (fun W=>Go.Conc.stepG_region) (by simp[okItem,okC,a0,a1',a2,a3,a4,a5,a6,a7,b0,b1,b2,b3,b4,b5,b6,b7,b8,b9,b10])).trans fun c1 h=>?_
 refine (BS.op (restS:=[1,2]) (restG:=[1,2]) hF hFin h (o:=L.m1) rfl rfl (L.free _ (by simp)) (L.okG _ (by simp)) (L.vals _ (by simp) _)).trans ?_
 rintro c1 ⟨x8,w1,h,W5,W5',r5⟩
 refine (BS.op (restS:=[2]) (restG:=[2]) hF hFin h (o:=L.v1) rfl rfl (L.free _ (by simp)) (L.okG _ (by simp)) (L.vals _ (by simp) _)).trans ?_
 rintro c1 ⟨x9,w1,h,W6,W6',r6⟩
 obtain ⟨ad,hrel⟩:=L.rel a1 hsz1 x4 x5 x6 x7 x8 x9 W1 W1' W2 W2' W3 W3' W4 W4' W5 W5' W6 W6' r1 r2 r3 r4 r5 r6
 refine (BS.says (restS:=[]) (restG:=[]) h (oS:=L.s1) (oG:=L.g1) rfl rfl d1 (L.free _ (by simp)) (L.free _ (by simp)) hke (fun W=>(L.mute _ (by simp) _ W f).1) (fun W=>(hrel W).1) (fun W=>(hrel W).2) (fun W=>(L.mute _ (by simp) _ W f).2)
  (fun e he=>by rw[Array.mem_singleton]at he;subst he;exact .inr (.inr (.inr (.inr ⟨ad,rfl⟩)))) (δ':=0) rfl (by simp[okItem,okC,a0,a1',a2,a3,a4,a5,a6,a7,b0,b1,b2,b3,b4,b5,b6,b7,b8,b9,b10])).trans fun c1 h=>?_
 rw[← d1]at h
 refine (h.ctl (fun W=>Go.Conc.stepG_region_end) (fun W=>Go.Conc.stepG_region_end) (by simp[okItem,okC,a0,a1',a2,a3,a4,a5,a6,a7,b0,b1,b2,b3,b4,b5,b6,b7,b8,b9,b10])).trans fun c1 h=>?_
 refine (h.ctl (fun W=>Go.Conc.stepG_region) (fun W=>Go.Conc.stepG_region) (by simp[okItem,okC,a0,a1',a2,a3,a4,a5,a6,a7,b0,b1,b2,b3,b4,b5,b6,b7,b8,b9,b10])).trans fun c1 h=>?_
 refine (BS.says (restS:=[]) (restG:=[]) h (oS:=L.s2) (oG:=L.g2) rfl rfl d2 (L.free _ (by simp)) (L.free _ (by simp)) hke (fun W=>(L.mute _ (by simp) _ W f).1) (fun W=>(L.dis _ W).1) (fun W=>(L.dis _ W).2) (fun W=>(L.mute _ (by simp) _ W f).2)
  (fun e he=>by rw[Array.mem_singleton]at he;subst he;exact .inr (.inl rfl)) (δ':=1) rfl (by simp[okItem,okC,a0,a1',a2,a3,a4,a5,a6,a7,b0,b1,b2,b3,b4,b5,b6,b7,b8,b9,b10])).trans fun c1 h=>?_
 rw[← d2]at h
 refine (h.ctl (fun W=>Go.Conc.stepG_region_end) (fun W=>Go.Conc.stepG_region_end) (by simp[okItem,okC,a0,a1',a2,a3,a4,a5,a6,a7,b0,b1,b2,b3,b4,b5,b6,b7,b8,b9,b10])).trans fun c1 h=>?_
 refine (h.ctl (fun W=>Go.Conc.stepG_seq) (fun W=>Go.Conc.stepG_seq) (by simp[okItem,okC,a0,a1',a2,a3,a4,a5,a6,a7,b0,b1,b2,b3,b4,b5,b6,b7,b8,b9,b10])).trans fun c1 h=>?_
 refine (h.ctl (fun W=>Go.Conc.stepG_region) (fun W=>Go.Conc.stepG_region) (by simp[okItem,okC,a0,a1',a2,a3,a4,a5,a6,a7,b0,b1,b2,b3,b4,b5,b6,b7,b8,b9,b10])).trans fun c1 h=>?_
 refine (BS.op (restS:=[1,2,3,4]) (restG:=[1,2,3,4]) hF hFin h (o:=L.r0) rfl rfl (L.free _ (by simp)) (L.okG _ (by simp)) (L.vals _ (by simp) _)).trans ?_
 rintro c1 ⟨y0,w1,h,_⟩
 refine (BS.op (restS:=[2,3,4]) (restG:=[2,3,4]) hF hFin h (o:=L.r1) rfl rfl (L.free _ (by simp)) (L.okG _ (by simp)) (L.vals _ (by simp) _)).trans ?_
 rintro c1 ⟨y1,w1,h,_⟩
 refine (BS.op (restS:=[3,4]) (restG:=[3,4]) hF hFin h (o:=L.r2) rfl rfl (L.free _ (by simp)) (L.okG _ (by simp)) (L.vals _ (by simp) _)).trans ?_
 rintro c1 ⟨y2,w1,h,_⟩
 refine (BS.op (restS:=[4]) (restG:=[4]) hF hFin h (o:=L.r3) rfl rfl (L.free _ (by simp)) (L.okG _ (by simp)) (L.vals _ (by simp) _)).trans ?_
 rintro c1 ⟨y3,w1,h,_⟩
 refine (BS.op (restS:=[]) (restG:=[]) hF hFin h (o:=L.r4) rfl rfl (L.free _ (by simp)) (L.okG _ (by simp)) (L.vals _ (by simp) _)).trans ?_
 rintro c1 ⟨y4,w1,h,_⟩
 refine (h.ctl (fun W=>Go.Conc.stepG_region_end) (fun W=>Go.Conc.stepG_region_end) (by simp[okItem,okC,a0,a1',a2,a3,a4,a5,a6,a7,b0,b1,b2,b3,b4,b5,b6,b7,b8,b9,b10])).trans fun c1 h=>?_
 refine (h.ctl (fun W=>Go.Conc.stepG_seq) (fun W=>Go.Conc.stepG_seq) (by simp[okItem,okC,a0,a1',a2,a3,a4,a5,a6,a7,b0,b1,b2,b3,b4,b5,b6,b7,b8,b9,b10])).trans fun c1 h=>?_
 refine (h.ctl (fun W=>Go.Conc.stepG_seq) (fun W=>Go.Conc.stepG_seq) (by simp[okItem,okC,a0,a1',a2,a3,a4,a5,a6,a7,b0,b1,b2,b3,b4,b5,b6,b7,b8,b9,b10])).trans fun c1 h=>?_
 refine (h.ctl (fun W=>Go.Conc.stepG_region) (fun W=>Go.Conc.stepG_region) (by simp[okItem,okC,a0,a1',a2,a3,a4,a5,a6,a7,b0,b1,b2,b3,b4,b5,b6,b7,b8,b9,b10])).trans fun c1 h=>?_
 refine (BS.op (restS:=[1]) (restG:=[1]) hF hFin h (o:=L.t0) rfl rfl (L.free _ (by simp)) (L.okG _ (by simp)) (L.vals _ (by simp) _)).trans ?_
 rintro c1 ⟨z0,w1,h,_⟩
 refine (BS.op (restS:=[]) (restG:=[]) hF hFin h (o:=L.t1) rfl rfl (L.free _ (by simp)) (L.okG _ (by simp)) (L.vals _ (by simp) _)).trans ?_
 rintro c1 ⟨z1,w1,h,_⟩
 refine (h.ctl (fun W=>Go.Conc.stepG_region_end) (fun W=>Go.Conc.stepG_region_end) (by simp[okItem,okC,a0,a1',a2,a3,a4,a5,a6,a7,b0,b1,b2,b3,b4,b5,b6,b7,b8,b9,b10])).trans fun c1 h=>?_
 have hdd:∀ (x:Act),x.defers=a1.defers→x.defers=[]:=fun x e=>e.trans hd1
 generalize hA:Act.put _ L.t1.dst z1=A at h
 have hdA:A.defers=[]:=by rw[← hA];simp only[put_defers];exact hd1
 generalize hy:A.eval (.tmp 16)=y
 by_cases hb:∃ t,y=.bool t
 ·obtain ⟨t,rfl⟩:=hb
  cases t with
  | true =>
   refine (h.ctl (fun W=>Go.Conc.stepG_cond hy) (fun W=>Go.Conc.stepG_cond hy) (by simp[okItem,okC,a0,a1',a2,a3,a4,a5,a6,a7,b0,b1,b2,b3,b4,b5,b6,b7,b8,b9,b10])).trans fun c1 h=>?_
   simp only[if_true]at h
   refine (h.ctl (fun W=>Go.Conc.stepG_region) (fun W=>Go.Conc.stepG_region) (by simp[okItem,okC,a0,a1',a2,a3,a4,a5,a6,a7,b0,b1,b2,b3,b4,b5,b6,b7,b8,b9,b10])).trans fun c1 h=>?_
   refine (BS.op (restS:=[1,2]) (restG:=[1,2]) hF hFin h (o:=L.q0) rfl rfl (L.free _ (by simp)) (L.okG _ (by simp)) (L.vals _ (by simp) _)).trans ?_
   rintro c1 ⟨u0,w1,h,_⟩
   refine (BS.op (restS:=[2]) (restG:=[2]) hF hFin h (o:=L.q1) rfl rfl (L.free _ (by simp)) (L.okG _ (by simp)) (L.vals _ (by simp) _)).trans ?_
   rintro c1 ⟨u1,w1,h,_⟩
   exact (h.never (op_stuck hF.fit (o:=L.q2) rfl (L.free _ (by simp)) (L.slow _))).elim
  | false =>
   refine (h.ctl (fun W=>Go.Conc.stepG_cond hy) (fun W=>Go.Conc.stepG_cond hy) (by simp[okItem,okC,a0,a1',a2,a3,a4,a5,a6,a7,b0,b1,b2,b3,b4,b5,b6,b7,b8,b9,b10])).trans fun c1 h=>?_
   simp only[Bool.false_eq_true,if_false]at h
   refine (h.ctl (fun W=>Go.Conc.stepG_skip) (fun W=>Go.Conc.stepG_skip) (by simp[okItem,okC,a0,a1',a2,a3,a4,a5,a6,a7,b0,b1,b2,b3,b4,b5,b6,b7,b8,b9,b10])).trans fun c1 h=>?_
   refine (h.ctl (fun W=>Go.Conc.stepG_region) (fun W=>Go.Conc.stepG_region) (by simp[okItem,okC,a0,a1',a2,a3,a4,a5,a6,a7,b0,b1,b2,b3,b4,b5,b6,b7,b8,b9,b10])).trans fun c1 h=>?_
   refine (BS.says (restS:=[]) (restG:=[]) h (oS:=L.s6) (oG:=L.g6) rfl rfl d6 (L.free _ (by simp)) (L.free _ (by simp)) hke (fun W=>(L.mute _ (by simp) _ W f).1) (fun W=>(L.ena _ W).1) (fun W=>(L.ena _ W).2) (fun W=>(L.mute _ (by simp) _ W f).2)
    (fun e he=>by rw[Array.mem_singleton]at he;subst he;exact .inr (.inr (.inl rfl))) (δ':=0) rfl (by simp[okItem,okC,a0,a1',a2,a3,a4,a5,a6,a7,b0,b1,b2,b3,b4,b5,b6,b7,b8,b9,b10])).trans fun c1 h=>?_
   rw[← d6]at h
   refine (h.ctl (fun W=>Go.Conc.stepG_region_end) (fun W=>Go.Conc.stepG_region_end) (by simp)).trans fun c1 h=>?_
   have ho:=h.own
   refine (BS.great (h.small (fun W=>Go.Conc.stepG_end) (okF_ret ho)) (fun W=>Go.Conc.stepG_end) (fun e he=>by simp at he) (δ':=0) rfl).trans fun c1 h=>?_
   refine (BS.leave hF h (sf:=L.sf) (fn:=L.fn) L.hs L.hg L.rs L.rg rfl rfl ?_ ?_ rfl hk).mono ?_
   ·simp only[Frame.at,put_defers];exact hdA
   ·simp only[Frame.at,put_defers];exact hdA
   ·rintro c' ⟨n,fr2,up2,w2,q⟩
    exact ⟨n,fr2,up2,w2,hf0▸q⟩
 ·exfalso
  exact h.never (cond_stuck (by rw[hy];exact hb))
theorem block_of (h0:Rdy0 Γ P){fl fu:Nat}(L:LockAt P fl)(U:UnlockAt P fu)(hst:∀ f,isStub P f→f=fl∨f=fu)  (T:Team Γ P):Block T:=by
 intro Fin cs f v k up w c hFin hs hk hne ht hu hM hg
 have bs:BS T Fin (Frame.enter P.s f v k) w up cs (Frame.enter P.s f v k) (Frame.enter P.g f v k) w 0 c :=
  ⟨ht,hne,hu,enter_ok (P:=P.self) h0.own f v k hk rfl,hM,hg,⟨0,rfl,rfl,rfl⟩⟩
 rcases hst f hs with rfl|rfl
 ·exact lock_block h0 hFin L hk bs
 ·exact unlock_block h0 hFin U hk bs
end
end Go.Proofs.YtdianedehhecoaaGreatDoor.Co
/- The trace while a worker (goroutine n) works beside goroutine 0; the worker's word 'release'; what goroutine 0 knows once it has joined. -/
namespace Go.Proofs.YtdianedehhecoaaGreatDoor.Co
variable [Loops]
open Go.Conc (touchAt Knows Deaf noRace_append Deaf_own Deaf_other touch_mute touch_of getElem?_append_cases touchAt_of knows_own counts_old g?_old act?_old heard_old hb_app getElem?_append_old lt_size_of_getElem? hb_po)
structure PW (D:Nat→Prop) (n δ0 δ:Nat)(t:Trace):Prop where
 clean:∀ said,¬ Race said t
 known:∀ i a,touchAt t i=some a→a.loc.isMemory=true→Knows t n i∨(ghostLoc D a.loc∧a.kind≠.plain)
 mine:∀ i a,touchAt t i=some a→a.loc.isMemory=true→Knows t 0 i∨(t.g? i=some n∧¬ ghostLoc D a.loc)∨(ghostLoc D a.loc∧a.kind=.atomic)
 over:∀ i g,t.g? i=some g→g≠0→g≠n→t.counts i→∃ j,t.g? j=some 0∧HappensBefore t i j
 deaf0:Deaf t 0=δ0
 deafn:Deaf t n=δ
def hush (D:Nat→Prop)(e:Event):Prop:=∀ x,(MemAct.ofEvent e).touch? = some x→ghostLoc D x.loc∧x.kind≠.plain
def atom (D:Nat→Prop)(e:Event):Prop:=∀ x,(MemAct.ofEvent e).touch? = some x→ghostLoc D x.loc∧x.kind=.atomic
section
variable {D:Nat→Prop} {n δ0 δ:Nat} {t u:Trace}
theorem lt_of_g? {i g:Nat}(h:t.g? i=some g):i<t.size:=by
 unfold Trace.g? at h
 obtain ⟨z,hz,_⟩:=Option.map_eq_some_iff.1 h
 exact lt_size_of_getElem? hz
theorem over_app {K:Nat→Prop}(h:∀ i g,t.g? i=some g→g≠0→K g→t.counts i→∃ j,t.g? j=some 0∧HappensBefore t i j)(hu:∀ op∈u,op.g=0∨¬ K op.g∨op.act.touch? = none) :
  ∀ i g,(t++u).g? i=some g→g≠0→K g→(t++u).counts i→∃ j,(t++u).g? j=some 0∧HappensBefore (t++u) i j:=by
 intro i g hg hne hK hc
 obtain ⟨x,hx,_⟩:=id hc
 obtain ⟨op,hop,hox⟩:=touch_of hx
 rcases getElem?_append_cases hop with ⟨hi,hop'⟩|⟨_,hopu⟩
 ·obtain ⟨j,hj,hb⟩:=h i g (by rw[← g?_old (u:=u) hi];exact hg) hne hK ((counts_old hi).1 hc)
  exact ⟨j,by rw[g?_old (lt_of_g? hj)];exact hj,hb_app u hb⟩
 ·have hgo:op.g=g:=by simpa [Trace.g?,hop] using hg
  rcases hu op hopu with h0|h0|h0
  ·exact absurd (hgo.symm.trans h0) hne
  ·exact absurd (hgo▸hK) h0
  ·rw[h0]at hox;cases hox
theorem evs_g {g:Nat}{fn:FuncId}{pos:String}{es:Array Event}:∀ op∈MemOp.ofEvents g fn pos es,op.g=g:=fun op hop=>by obtain ⟨e,_,rfl⟩:=Go.Conc.mem_ofEvents hop;rfl
theorem PW.work (h:PW D n δ0 δ t)(hn:n≠0){fn:FuncId}{pos:String}{es:Array Event} {δ':Nat}(hes:∀ e∈es,mild D e)(hd:Go.deafBehind δ es=δ'):PW D n δ0 δ' (t++MemOp.ofEvents n fn pos es):=by
 refine ⟨fun said=>noRace_append (h.clean said) evs_g fun i a ha op hop b hb hc=>?_,fun i a ha hm=>?_,fun i a ha hm=>?_,fun i g hg h0 hgn=>over_app (K:=fun g=>g≠n) (fun i g a b c=>h.over i g a b c) (fun op hop=>.inr (.inl fun x=>x (evs_g op hop))) i g hg h0 hgn,by rw[Deaf_other t hn _ evs_g];exact h.deaf0,by rw[Deaf_own,h.deafn];exact hd⟩
 ·obtain ⟨e,he,rfl⟩:=Go.Conc.mem_ofEvents hop
  rcases h.known i a ha hc.2.1 with hk|⟨hs,_⟩
  ·exact hk
  ·exact absurd (hc.1▸hs) (mild_touch (hes e he) hb)
 ·obtain ⟨x,hx,hxa⟩:=touch_of ha
  rcases getElem?_append_cases hx with ⟨_,hx'⟩|⟨_,hxu⟩
  ·exact (h.known i a (by rw[touchAt_of hx'];exact hxa) hm).imp (·.app _) id
  ·have:=knows_own hx
   rw[evs_g x hxu]at this
   exact .inl this
 ·obtain ⟨x,hx,hxa⟩:=touch_of ha
  rcases getElem?_append_cases hx with ⟨hi,hx'⟩|⟨_,hxu⟩
  ·exact (h.mine i a (by rw[touchAt_of hx'];exact hxa) hm).imp (·.app _) fun x=>x.imp (fun ⟨y,z⟩=>⟨by rw[g?_old hi];exact y,z⟩) id
  ·obtain ⟨e,he,rfl⟩:=Go.Conc.mem_ofEvents hxu
   exact .inr (.inl ⟨by simp[Trace.g?,hx],mild_touch (hes e he) hxa⟩)
theorem PW.main (h:PW D n δ0 δ t)(hn:n≠0){fn:FuncId}{pos:String}{es:Array Event} {δ':Nat}(hes:∀ e∈es,hush D e)(hd:Go.deafBehind δ0 es=δ'):PW D n δ' δ (t++MemOp.ofEvents 0 fn pos es):=by
 refine ⟨fun said=>noRace_append (h.clean said) evs_g fun i a ha op hop b hb hc=>?_,fun i a ha hm=>?_,fun i a ha hm=>?_,fun i g hg h0 hgn=>over_app (K:=fun g=>g≠n) (fun i g a b c=>h.over i g a b c) (fun op hop=>.inl (evs_g op hop)) i g hg h0 hgn,by rw[Deaf_own,h.deaf0];exact hd,by rw[Deaf_other t (Ne.symm hn) _ evs_g];exact h.deafn⟩
 ·obtain ⟨e,he,rfl⟩:=Go.Conc.mem_ofEvents hop
  obtain ⟨b1,b2⟩:=hes e he b hb
  rcases h.mine i a ha hc.2.1 with hk|⟨_,hk⟩|⟨_,hk⟩
  ·exact hk
  ·exact absurd (hc.1▸b1) hk
  ·rcases hc.2.2.2 with x|x|⟨_,x,_⟩
   ·rw[hk]at x;cases x
   ·exact absurd x b2
   ·rw[hk]at x;cases x
 ·obtain ⟨x,hx,hxa⟩:=touch_of ha
  rcases getElem?_append_cases hx with ⟨_,hx'⟩|⟨_,hxu⟩
  ·exact (h.known i a (by rw[touchAt_of hx'];exact hxa) hm).imp (·.app _) id
  ·obtain ⟨e,he,rfl⟩:=Go.Conc.mem_ofEvents hxu
   exact .inr (hes e he a hxa)
 ·obtain ⟨x,hx,hxa⟩:=touch_of ha
  rcases getElem?_append_cases hx with ⟨hi,hx'⟩|⟨_,hxu⟩
  ·exact (h.mine i a (by rw[touchAt_of hx'];exact hxa) hm).imp (·.app _) fun x=>x.imp (fun ⟨y,z⟩=>⟨by rw[g?_old hi];exact y,z⟩) id
  ·have:=knows_own hx
   rw[evs_g x hxu]at this
   exact .inl this
theorem PW.atoms (h:PW D n δ0 δ t)(hn:n≠0){fn:FuncId}{pos:String}{es:Array Event} {δ':Nat}(hes:∀ e∈es,atom D e)(hd:Go.deafBehind δ es=δ'):PW D n δ0 δ' (t++MemOp.ofEvents n fn pos es):=by
 refine ⟨fun said=>noRace_append (h.clean said) evs_g fun i a ha op hop b hb hc=>?_,fun i a ha hm=>?_,fun i a ha hm=>?_,fun i g hg h0 hgn=>over_app (K:=fun g=>g≠n) (fun i g a b c=>h.over i g a b c) (fun op hop=>.inr (.inl fun x=>x (evs_g op hop))) i g hg h0 hgn,by rw[Deaf_other t hn _ evs_g];exact h.deaf0,by rw[Deaf_own,h.deafn];exact hd⟩
 ·obtain ⟨e,he,rfl⟩:=Go.Conc.mem_ofEvents hop
  obtain ⟨_,b2⟩:=hes e he b hb
  rcases h.known i a ha hc.2.1 with hk|⟨_,hk⟩
  ·exact hk
  ·rcases hc.2.2.2 with x|x|⟨_,_,x⟩
   ·exact absurd x hk
   ·rw[b2]at x;cases x
   ·rw[b2]at x;cases x
 ·obtain ⟨x,hx,hxa⟩:=touch_of ha
  rcases getElem?_append_cases hx with ⟨_,hx'⟩|⟨_,hxu⟩
  ·exact (h.known i a (by rw[touchAt_of hx'];exact hxa) hm).imp (·.app _) id
  ·have:=knows_own hx
   rw[evs_g x hxu]at this
   exact .inl this
 ·obtain ⟨x,hx,hxa⟩:=touch_of ha
  rcases getElem?_append_cases hx with ⟨hi,hx'⟩|⟨_,hxu⟩
  ·exact (h.mine i a (by rw[touchAt_of hx'];exact hxa) hm).imp (·.app _) fun x=>x.imp (fun ⟨y,z⟩=>⟨by rw[g?_old hi];exact y,z⟩) id
  ·obtain ⟨e,he,rfl⟩:=Go.Conc.mem_ofEvents hxu
   exact .inr (.inr (hes e he a hxa))
theorem PW.other (h:PW D n δ0 δ t){g:Nat}(h0:g≠0)(hgn:g≠n){fn:FuncId}{pos:String}{es:Array Event}(hm:∀ e∈es,e.mute=true):PW D n δ0 δ (t++MemOp.ofEvents g fn pos es):=by
 have hno:∀ op∈MemOp.ofEvents g fn pos es,op.act.touch? = none:=fun op hop=>by obtain ⟨e,he,rfl⟩:=Go.Conc.mem_ofEvents hop;exact touch_mute (hm e he)
 refine ⟨fun said=>noRace_append (h.clean said) evs_g fun i a ha op hop b hb hc=>(by rw[hno op hop]at hb;cases hb),fun i a ha hm=>?_,fun i a ha hm=>?_,fun i g hg h0 hgn=>over_app (K:=fun g=>g≠n) (fun i g a b c=>h.over i g a b c) (fun op hop=>.inr (.inr (hno op hop))) i g hg h0 hgn,by rw[Deaf_other t h0 _ evs_g];exact h.deaf0,by rw[Deaf_other t hgn _ evs_g];exact h.deafn⟩
 ·obtain ⟨x,hx,hxa⟩:=touch_of ha
  rcases getElem?_append_cases hx with ⟨_,hx'⟩|⟨_,hxu⟩
  ·exact (h.known i a (by rw[touchAt_of hx'];exact hxa) hm).imp (·.app _) id
  ·rw[hno x hxu]at hxa;cases hxa
 ·obtain ⟨x,hx,hxa⟩:=touch_of ha
  rcases getElem?_append_cases hx with ⟨hi,hx'⟩|⟨_,hxu⟩
  ·exact (h.mine i a (by rw[touchAt_of hx'];exact hxa) hm).imp (·.app _) fun x=>x.imp (fun ⟨y,z⟩=>⟨by rw[g?_old hi];exact y,z⟩) id
  ·rw[hno x hxu]at hxa;cases hxa
structure RelW (D:Nat→Prop)(n:Nat)(a:Addr)(t:Trace)(r:Nat):Prop where
 act:t.act? r=some (.mark (.releaseMerge a))
 g:t.g? r=some n
 heard:t.heard r
 after:∀ i,r<i→t.g? i=some n→¬ t.counts i
 norel:∀ k,r<k→t.act? k≠some (.mark (.release a))
 pre:∀ i x,touchAt t i=some x→t.g? i=some n→¬ ghostLoc D x.loc→i<r
theorem RelW.app {a:Addr}{r:Nat}(h:RelW D n a t r)(hrel:∀ op∈u,op.act≠.mark (.release a))(hu:∀ i op,t.size≤i→(t++u)[i]? = some op→op.g=n→¬ (t++u).counts i∧∀ x,op.act.touch? = some x→ghostLoc D x.loc):RelW D n a (t++u) r:=by
 have hr:r<t.size:=lt_of_g? h.g
 refine ⟨by rw[act?_old hr];exact h.act,by rw[g?_old hr];exact h.g,(heard_old hr).2 h.heard,fun i hi hg=>?_,fun k hk e=>?_,fun i x hx hg hno=>?_⟩
 ·rcases Nat.lt_or_ge i t.size with hlt|hge
  ·rw[counts_old hlt]
   exact h.after i hi (by rw[← g?_old (u:=u) hlt];exact hg)
  ·obtain ⟨op,hop,hg'⟩:=Option.map_eq_some_iff.1 hg
   exact (hu i op hge hop hg').1
 ·obtain ⟨op,ho,hoa⟩:=Option.map_eq_some_iff.1 e
  rcases getElem?_append_cases ho with ⟨hl,ho'⟩|⟨_,hou⟩
  ·exact h.norel k hk (by rw[← act?_old (u:=u) hl];exact e)
  ·exact hrel op hou hoa
 ·rcases Nat.lt_or_ge i t.size with hlt|hge
  ·obtain ⟨y,hy,hyx⟩:=touch_of hx
   rw[getElem?_append_old hlt]at hy
   exact h.pre i x (by rw[touchAt_of hy];exact hyx) (by rw[← g?_old (u:=u) hlt];exact hg) hno
  ·obtain ⟨y,hy,hyx⟩:=touch_of hx
   have hyg:y.g=n:=by simpa [Trace.g?,hy] using hg
   exact absurd ((hu i y hge hy hyg).2 x hyx) hno
theorem norel_mute {g:Nat}{fn:FuncId}{pos:String}{es:Array Event}{a:Addr}(hm:∀ e∈es,e.mute=true):∀ op∈MemOp.ofEvents g fn pos es,op.act≠.mark (.release a):=fun op hop e=>by
 obtain ⟨ev,he,rfl⟩:=Go.Conc.mem_ofEvents hop
 have:=hm ev he
 obtain ⟨loc,w,s⟩:=ev
 cases loc with
 | mark m=>cases m<;>simp[Event.mute]at this<;>simp[MemAct.ofEvent]at e
 | _=>simp[Event.mute]at this
theorem RelW.others {a:Addr}{r:Nat}(h:RelW D n a t r){g:Nat}(hg:g≠n){fn:FuncId}{pos:String}{es:Array Event}(hrel:∀ op∈MemOp.ofEvents g fn pos es,op.act≠.mark (.release a)):RelW D n a (t++MemOp.ofEvents g fn pos es) r :=
 h.app hrel fun i op hi hop hgn=>by
  rcases getElem?_append_cases hop with ⟨hl,_⟩|⟨_,hou⟩
  ·omega
  ·exact absurd ((evs_g op hou).symm.trans hgn) hg
theorem RelW.deaf {a:Addr}{r:Nat}(h:RelW D n a t r){fn:FuncId}{pos:String}{es:Array Event}(hd:(∀ e∈es,(MemAct.ofEvent e).touch? = none)∨∀ j,j≤es.size→0<Go.deafBehind (Deaf t n) (es.extract 0 j))(hes:∀ e∈es,atom D e)(hrel:∀ e∈es,MemAct.ofEvent e≠.mark (.release a)):RelW D n a (t++MemOp.ofEvents n fn pos es) r :=
 h.app (fun op hop=>by obtain ⟨e,he,rfl⟩:=Go.Conc.mem_ofEvents hop;exact hrel e he) fun i op hi hop hgn=>by
  rcases getElem?_append_cases hop with ⟨hl,_⟩|⟨_,hou⟩
  ·omega
  ·obtain ⟨e,he,rfl⟩:=Go.Conc.mem_ofEvents hou
   refine ⟨?_,fun x hx=>(hes e he x hx).1⟩
   rintro ⟨x,hx,hm,hk⟩
   have hx':(MemAct.ofEvent e).touch? = some x:=by simpa [Trace.act?,hop] using hx
   rcases hd with hd|hd
   ·rw[hd e he]at hx';cases hx'
   ·rcases hk with hk|⟨g,hg,h0⟩
    ·exact hk (hes e he x hx').2
    ·have hgn:g=n:=by simpa [Trace.g?,hop] using hg.symm
     subst hgn
     obtain ⟨j,hj,rfl⟩:∃ j,j≤es.size∧i=t.size+j:=by
      have:=lt_size_of_getElem? hop
      refine ⟨i-t.size,?_,by omega⟩
      simp[Go.Conc.ofEvents_eq]at this
      omega
     rw[Go.Conc.deaf_inside t _ fn pos es j hj]at h0
     have:=hd j hj
     omega
theorem PW.release (h:PW D n δ0 0 t)(hn:n≠0)(a:Addr){fn:FuncId}{pos:String}:PW D n δ0 0 (t++MemOp.ofEvents n fn pos #[⟨.mark (.releaseMerge a),false,true⟩])∧RelW D n a (t++MemOp.ofEvents n fn pos #[⟨.mark (.releaseMerge a),false,true⟩]) t.size:=by
 have e:MemOp.ofEvents n fn pos #[⟨.mark (.releaseMerge a),false,true⟩]=#[⟨n,fn,pos,.mark (.releaseMerge a)⟩]:=by simp[Go.Conc.ofEvents_eq,MemAct.ofEvent]
 refine ⟨h.work hn (fun e he=>?_) rfl,?_⟩
 ·simp only[List.mem_toArray,List.mem_cons,List.not_mem_nil,or_false]at he
  subst he
  exact .inr (.inr (.inr (.inr ⟨a,rfl⟩)))
 ·rw[e]
  have hlast:(t++#[(⟨n,fn,pos,.mark (.releaseMerge a)⟩:MemOp)])[t.size]? = some ⟨n,fn,pos,.mark (.releaseMerge a)⟩:=by rw[Array.getElem?_append_right (Nat.le_refl _)];simp
  have htop:∀ i op,(t++#[(⟨n,fn,pos,.mark (.releaseMerge a)⟩:MemOp)])[i]? = some op→i≤t.size:=fun i op hi=>by
   have:=lt_size_of_getElem? hi
   simp at this
   omega
  refine ⟨by simp[Trace.act?],by simp[Trace.g?],⟨n,by simp[Trace.g?],?_⟩,fun i hi hg=>?_,fun k hk e=>?_,fun i x hx hg hno=>?_⟩
  ·rw[Go.Conc.deaf_old (Nat.le_refl _)]
   exact h.deafn
  ·obtain ⟨op,hop,_⟩:=Option.map_eq_some_iff.1 hg
   have:=htop i op hop
   omega
  ·obtain ⟨op,hop,_⟩:=Option.map_eq_some_iff.1 e
   have:=htop k op hop
   omega
  ·obtain ⟨y,hy,hyx⟩:=touch_of hx
   have:=htop i y hy
   rcases Nat.lt_or_ge i t.size with hlt|hge
   ·exact hlt
   ·have:i=t.size:=by omega
    subst this
    rw[hlast]at hy
    cases hy
    simp[MemAct.touch?]at hyx
theorem PW.join (h:PW D n 0 δ t)(hn:n≠0){a:Addr}{r:Nat}(hr:RelW D n a t r){fn:FuncId}{pos:String} {Γ:Nat→Prop}(hG:∀ j,D j→Γ j):PastD Γ 0 (t++MemOp.ofEvents 0 fn pos #[⟨.mark (.acquire a),false,true⟩]):=by
 have e:MemOp.ofEvents 0 fn pos #[⟨.mark (.acquire a),false,true⟩]=#[⟨0,fn,pos,.mark (.acquire a)⟩]:=by simp[Go.Conc.ofEvents_eq,MemAct.ofEvent]
 rw[e]
 have hlast:(t++#[(⟨0,fn,pos,.mark (.acquire a)⟩:MemOp)])[t.size]? = some ⟨0,fn,pos,.mark (.acquire a)⟩:=by rw[Array.getElem?_append_right (Nat.le_refl _)];simp
 have hrs:r<t.size:=lt_of_g? hr.g
 have hu:∀ op∈#[(⟨0,fn,pos,.mark (.acquire a)⟩:MemOp)],op.g=0∧op.act.touch? = none:=fun op hop=>by
  simp only[List.mem_toArray,List.mem_cons,List.not_mem_nil,or_false]at hop
  subst hop
  exact ⟨rfl,rfl⟩
 have edge:HappensBefore (t++#[(⟨0,fn,pos,.mark (.acquire a)⟩:MemOp)]) r t.size:=by
  refine .single (.inr ⟨.marked (a:=a) hrs (.inr (by rw[act?_old hrs];exact hr.act)) (by simp[Trace.act?]) (fun k hk1 hk2=>by rw[act?_old hk2];exact hr.norel k hk1),(heard_old hrs).2 hr.heard,⟨0,by simp[Trace.g?],?_⟩⟩)
  rw[Go.Conc.deaf_old (Nat.le_refl _)]
  exact h.deaf0
 have hbr:∀ i,i≤r→t.g? i=some n→HappensBefore (t++#[(⟨0,fn,pos,.mark (.acquire a)⟩:MemOp)]) i t.size:=fun i hi hg=>by
  rcases Nat.lt_or_ge i r with hlt|hge
  ·exact .trans (.single (.inl ⟨hlt,n,by rw[g?_old (by omega)];exact hg,by rw[g?_old hrs];exact hr.g⟩)) edge
  ·have:i=r:=by omega
   subst this
   exact edge
 refine ⟨fun said=>noRace_append (h.clean said) (fun op hop=>(hu op hop).1) fun i x hx op hop b hb hc=>(by rw[(hu op hop).2]at hb;cases hb),fun i x hx hm=>?_,fun i g hg h0 hc=>?_,?_⟩
 ·obtain ⟨y,hy,hyx⟩:=touch_of hx
  rcases getElem?_append_cases hy with ⟨hi,hy'⟩|⟨_,hyu⟩
  ·rcases h.mine i x (by rw[touchAt_of hy'];exact hyx) hm with hk|⟨hk,hno⟩|⟨hk,ha⟩
   ·exact .inl (hk.app _)
   ·have hlt:=hr.pre i x (by rw[touchAt_of hy'];exact hyx) hk hno
    exact .inl ⟨t.size,_,hlast,rfl,.inr (hbr i (Nat.le_of_lt hlt) hk)⟩
   ·refine .inr ⟨?_,ha⟩
    revert hk
    cases x.loc<;>first|exact hG _|exact id
  ·rw[(hu y hyu).2]at hyx;cases hyx
 ·have hi:i<t.size:=by
   obtain ⟨x,hx,_⟩:=id hc
   obtain ⟨y,hy,hyx⟩:=touch_of hx
   rcases getElem?_append_cases hy with ⟨hi,hy'⟩|⟨_,hyu⟩
   ·exact hi
   ·rw[(hu y hyu).2]at hyx;cases hyx
  have hg':t.g? i=some g:=by rw[← g?_old (u:=#[(⟨0,fn,pos,.mark (.acquire a)⟩:MemOp)]) hi];exact hg
  have hc':=(counts_old hi).1 hc
  by_cases hgn:g=n
  ·subst hgn
   have hle:i≤r:=Nat.le_of_not_lt fun hlt=>hr.after i hlt hg' hc'
   exact ⟨t.size,by simp[Trace.g?],hbr i hle hg'⟩
  ·obtain ⟨j,hj,hb⟩:=h.over i g hg' h0 hgn hc'
   exact ⟨j,by rw[g?_old (lt_of_g? hj)];exact hj,hb_app _ hb⟩
 ·rw[← e,Deaf_own,h.deaf0]
  rfl
theorem PW.fork {Γ:Nat→Prop}(h:PastD Γ 0 t)(hn:n≠0)(hdn:Deaf t n=0)(hG:∀ j,Γ j→D j){x y:MemOp}(hx:x.g=0)(hxa:x.act=.go n)(hy:y.g=n)(hya:y.act=.start):PW D n 0 0 (t++#[x,y]):=by
 have ex:(t++#[x,y])[t.size]? = some x:=by rw[Array.getElem?_append_right (Nat.le_refl _)];simp
 have ey:(t++#[x,y])[t.size+1]? = some y:=by rw[Array.getElem?_append_right (Nat.le_succ _)];simp
 have hno:∀ op∈#[x,y],op.act.touch? = none:=fun op hop=>by
  simp only[List.mem_toArray,List.mem_cons,List.not_mem_nil,or_false]at hop
  rcases hop with rfl|rfl
  ·rw[hxa];rfl
  ·rw[hya];rfl
 have hdx:(t++#[x,y]).deaf 0 t.size=0:=by rw[Go.Conc.deaf_old (Nat.le_refl _)];exact h.deaf
 have hdy:(t++#[x,y]).deaf n (t.size+1)=0:=by
  have:t++#[x,y]=(t++#[x])++#[y]:=by rw[Array.append_assoc];rfl
  have hs:(t++#[x]).size=t.size+1:=by simp
  rw[this,← hs,Go.Conc.deaf_old (Nat.le_refl _)]
  show Deaf (t++#[x]) n=0
  rw[Deaf_other t (g':=0) (Ne.symm hn) _ (fun op hop=>by simp only[List.mem_toArray,List.mem_cons,List.not_mem_nil,or_false]at hop;rw[hop];exact hx)]
  exact hdn
 have edge:HappensBefore (t++#[x,y]) t.size (t.size+1):=.single (.inr ⟨.spawn (child:=n) (by simp[Trace.act?,hxa]) (by simp[Trace.act?,ey,hya]) (by simp[Trace.g?,ey,hy]),⟨0,by simp[Trace.g?,hx],hdx⟩,⟨n,by simp[Trace.g?,ey,hy],hdy⟩⟩)
 have kn:∀ i,Knows t 0 i→Knows (t++#[x,y]) n i:=fun i hk=>⟨t.size+1,y,ey,hy,.inr ((hk.hb_new (Nat.le_refl _) ex hx).trans edge)⟩
 have gh:∀ l,ghostLoc Γ l→ghostLoc D l:=fun l=>by cases l<;>first|exact hG _|exact id
 refine ⟨fun said hr=>?_,fun i a ha hm=>?_,fun i a ha hm=>?_,fun i g hg h0 hgn hc=>over_app (K:=fun _=>True) (fun i g a b _ c=>h.over i g a b c) (fun op hop=>.inr (.inr (hno op hop))) i g hg h0 trivial hc,?_,?_⟩
 ·have e:t++#[x,y]=(t++#[x])++#[y]:=by rw[Array.append_assoc];rfl
  rw[e]at hr
  refine noRace_append (g:=n) (noRace_append (g:=0) (h.clean said) ?_ ?_) ?_ ?_ hr
  ·intro op hop;simp only[List.mem_toArray,List.mem_cons,List.not_mem_nil,or_false]at hop;rw[hop];exact hx
  ·intro i a _ op hop b hb;simp only[List.mem_toArray,List.mem_cons,List.not_mem_nil,or_false]at hop;rw[hop,hxa]at hb;cases hb
  ·intro op hop;simp only[List.mem_toArray,List.mem_cons,List.not_mem_nil,or_false]at hop;rw[hop];exact hy
  ·intro i a _ op hop b hb;simp only[List.mem_toArray,List.mem_cons,List.not_mem_nil,or_false]at hop;rw[hop,hya]at hb;cases hb
 ·obtain ⟨z,hz,hza⟩:=touch_of ha
  rcases getElem?_append_cases hz with ⟨_,hz'⟩|⟨_,hzu⟩
  ·rcases h.known i a (by rw[touchAt_of hz'];exact hza) hm with hk|⟨hk,ha⟩
   ·exact .inl (kn i hk)
   ·exact .inr ⟨gh _ hk,by rw[ha];intro e;cases e⟩
  ·rw[hno z hzu]at hza;cases hza
 ·obtain ⟨z,hz,hza⟩:=touch_of ha
  rcases getElem?_append_cases hz with ⟨_,hz'⟩|⟨_,hzu⟩
  ·rcases h.known i a (by rw[touchAt_of hz'];exact hza) hm with hk|⟨hk,ha⟩
   ·exact .inl (hk.app _)
   ·exact .inr (.inr ⟨gh _ hk,ha⟩)
  ·rw[hno z hzu]at hza;cases hza
 ·have:=Go.Conc.Deaf_append t 0 [x,y]
  rw[this]
  simp[Go.Conc.deafStep,hxa,hya,h.deaf]
 ·have:=Go.Conc.Deaf_append t n [x,y]
  rw[this]
  simp[Go.Conc.deafStep,hxa,hya,hdn]
end
end Go.Proofs.YtdianedehhecoaaGreatDoor.Co
/- Two goroutines at work (0 and n), all others leaving: by induction over the worker's rank, the leavers' steps, goroutine 0's rank. -/
namespace Go.Proofs.YtdianedehhecoaaGreatDoor.Co
variable [Loops]
open Go.Conc (G crowd Leavers touchAt Knows Deaf QuitsD crowd_pick runT_crowd_go woken_quitsD woken_run awake_of Deaf_own Deaf_other woken awake)
open Go.ConcN (sumTo upd sumTo_upd upd_ne upd_same)
structure Others (p:Program)(n:Nat)(q:Nat→Nat)(c:Conf):Prop where
 old:∀ (j:Nat) x,0<j→j≠n→c.gs[j]? = some x→QuitsD p (q j) (Deaf c.t j) x
 above:∀ j,c.gs.size≤j→Deaf c.t j=0
def Conf.after (p:Program)(c:Conf)(i:Nat)(g g':Goroutine)(w':World)(sl:Option (Nat × Nat))(fn:FuncId)(pos:String)(es:Array Event):Conf :=
 ⟨(c.gs.map (woken p g g' w')).setIfInBounds i g',w',sl,c.t++MemOp.ofEvents i fn pos es⟩
section
variable {p:Program} {n:Nat}
theorem after_size {c:Conf}{i:Nat}{g g':Goroutine}{w':World}{sl:Option (Nat × Nat)}{fn:FuncId}{pos:String}{es:Array Event}:(c.after p i g g' w' sl fn pos es).gs.size=c.gs.size:=by simp [Conf.after]
theorem after_own {c:Conf}{i:Nat}{g g' x:Goroutine}{w':World}{sl:Option (Nat × Nat)}{fn:FuncId}{pos:String}{es:Array Event}(h:c.gs[i]? = some x):(c.after p i g g' w' sl fn pos es).gs[i]? = some g':=by
 have hlt:=(Array.getElem?_eq_some_iff.1 h).1
 simp[Conf.after,hlt]
theorem after_else {c:Conf}{i j:Nat}{g g' x:Goroutine}{w':World}{sl:Option (Nat × Nat)}{fn:FuncId}{pos:String}{es:Array Event}(hij:i≠j)(h:c.gs[j]? = some x):(c.after p i g g' w' sl fn pos es).gs[j]? = some (woken p g g' w' x):=by
 simp only[Conf.after]
 rw[Array.getElem?_setIfInBounds_ne hij,Array.getElem?_map,h]
 rfl
theorem Others.step {q:Nat→Nat}{c:Conf}(h:Others p n q c){i:Nat}(hi:i=0∨i=n){x:Goroutine}(hx:c.gs[i]? = some x){g g':Goroutine}{w':World}{sl:Option (Nat × Nat)}{fn:FuncId}{pos:String}{es:Array Event}:Others p n q (c.after p i g g' w' sl fn pos es):=by
 refine ⟨fun j y hj hjn hy=>?_,fun j hj=>?_⟩
 ·have hne:i≠j:=by rcases hi with rfl|rfl<;>omega
  simp only[Conf.after]at hy
  rw[Array.getElem?_setIfInBounds_ne hne,Array.getElem?_map]at hy
  obtain ⟨z,hz,rfl⟩:=Option.map_eq_some_iff.1 hy
  have hq:=h.old j z hj hjn hz
  rw[woken_quitsD hq]
  simp only[Conf.after]
  rw[Deaf_other c.t hne _ evs_g]
  exact hq
 ·have hlt:=(Array.getElem?_eq_some_iff.1 hx).1
  rw[after_size]at hj
  simp only[Conf.after]
  rw[Deaf_other c.t (g':=i) (by omega) _ evs_g]
  exact h.above j hj
theorem duo_ind {α β:Type}{lx:α→α→Prop}{ly:β→β→Prop}(wx:WellFounded lx)(wy:WellFounded ly)(hn:0<n){X:Conf→Prop}(I:α→β→Conf→Prop)
  (sit:∀ x y c,I x y c→X c∨∃ a b,c.gs[0]? = some a∧c.gs[n]? = some b∧awake a∧awake b∧(a.status=.running∨b.status=.running))
  (main:∀ x y c a,I x y c→¬ X c→c.gs[0]? = some a→a.status=.running→∀ d sl,∃ a' w' ev,stepG p true a (c.w.at d)=.go a' w' ev∧∃ y',ly y' y∧I x y' (c.after p 0 a a' w' sl a.frame.fn a.frame.place ev))
  (work:∀ x y c b,I x y c→¬ X c→c.gs[n]? = some b→b.status=.running→∀ d sl,∃ b' w' ev,stepG p false b (c.w.at d)=.go b' w' ev∧∃ x' y',lx x' x∧I x' y' (c.after p n b b' w' sl b.frame.fn b.frame.place ev))
  (rest:∀ x y c (j:Nat) g g' d sl fn pos es,I x y c→¬ X c→0<j→j≠n→(∀ e∈es,e.mute=true)→∃ y',I x y' (c.after p j g g' (c.w.at d) sl fn pos es)) :
  ∀ x y c q,I x y c→Others p n q c→Leads p c fun c'=>X c'∧∃ q,Others p n q c':=by
 intro x
 induction x using wx.induction with
 | _ x ihx =>
  have key:∀ M y c q,I x y c→Others p n q c→sumTo c.gs.size q=M→Leads p c fun c'=>X c'∧∃ q,Others p n q c':=by
   intro M
   induction M using Nat.strongRecOn with
   | _ M ihM =>
    intro y
    induction y using wy.induction with
    | _ y ihy =>
     intro c q hI hO hM
     by_cases hX:X c
     ·exact Leads.refl ⟨hX,q,hO⟩
     obtain ⟨a,b,h0,hb,ha1,hb1,hrun⟩:=(sit x y c hI).resolve_left hX
     have haw:∀ g∈c.gs,awake g:=by
      intro g hg
      obtain ⟨i,hi,rfl⟩:=Array.mem_iff_getElem.1 hg
      have hgi:=Array.getElem?_eq_getElem hi
      rcases Nat.eq_zero_or_pos i with rfl|hpos
      ·rw[h0]at hgi;cases hgi;exact ha1
      ·by_cases hin:i=n
       ·subst hin;rw[hb]at hgi;cases hgi;exact hb1
       ·exact awake_of ((hO.old i _ hpos hin hgi).status.elim .inl fun x=>.inr (.inr x))
     obtain ⟨i,g,d,sl',hi,hgr,hst⟩:=crowd_pick (P:=p) (w:=c.w) (sl:=c.sl) haw (hrun.elim (fun h=>⟨0,_,h0,h⟩) fun h=>⟨n,_,hb,h⟩)
     rcases Nat.eq_zero_or_pos i with rfl|hpos
     ·obtain rfl:g=a:=by rw[h0]at hi;exact (Option.some.inj hi).symm
      obtain ⟨a',w',ev,q1,y',hy,hI'⟩:=main x y c g hI hX h0 hgr d sl'
      have hrunT:=runT_crowd_go (P:=p) (sl:=sl') (i:=0) hi (show stepG p (0 == 0) g (c.w.at d)=_ from q1)
      exact Leads.step (c1:=c.after p 0 g a' w' sl' g.frame.fn g.frame.place ev) (hst.trans hrunT) rfl (ihy y' hy _ q hI' (hO.step (.inl rfl) h0) (by rw[after_size];exact hM))
     ·have hi0:(i == 0)=false:=by simp;omega
      by_cases hin:i=n
      ·subst hin
       obtain rfl:g=b:=by rw[hb]at hi;exact (Option.some.inj hi).symm
       obtain ⟨b',w',ev,q1,x',y',hx',hI'⟩:=work x y c g hI hX hb hgr d sl'
       have hrunT:=runT_crowd_go (P:=p) (sl:=sl') (i:=i) hi (by rw[hi0];exact q1)
       exact Leads.step (c1:=c.after p i g b' w' sl' g.frame.fn g.frame.place ev) (hst.trans hrunT) rfl (ihx x' hx' y' _ q hI' (hO.step (.inr rfl) hb))
      ·have hqq:=hO.old i g hpos hin hi
       have hlt:i<c.gs.size:=(Array.getElem?_eq_some_iff.1 hi).1
       cases hqi:q i with
       | zero=>rw[hqi]at hqq;rw[hqq.1]at hgr;cases hgr
       | succ k =>
        rw[hqi]at hqq
        rcases hqq with ⟨hff,_⟩|⟨_,g',es,hm,hstp,hq'⟩
        ·rw[hff]at hgr;cases hgr
        have hrunT:=runT_crowd_go (P:=p) (sl:=sl') (i:=i) hi (by rw[hi0];exact hstp (c.w.at d))
        have hsum:sumTo c.gs.size (upd q i k)+(k+1)=sumTo c.gs.size q+k:=by
         have:=sumTo_upd q k id hlt
         simpa [hqi] using this
        obtain ⟨y',hI'⟩:=rest x y c i g g' d sl' g.frame.fn g.frame.place es hI hX hpos hin hm
        refine Leads.step (c1:=c.after p i g g' (c.w.at d) sl' g.frame.fn g.frame.place es) (hst.trans hrunT) rfl (ihM (sumTo c.gs.size (upd q i k)) (by omega) y' _ (upd q i k) hI' ⟨fun j z hj hjn hz=>?_,fun j hj=>?_⟩ (by rw[after_size]))
        ·by_cases hji:i=j
         ·subst hji
          rw[after_own hi]at hz
          obtain rfl:=Option.some.inj hz
          rw[upd_same]
          simp only[Conf.after]
          rw[Deaf_own]
          exact hq'
         ·simp only[Conf.after]at hz
          rw[Array.getElem?_setIfInBounds_ne hji,Array.getElem?_map]at hz
          obtain ⟨y1,hy1,rfl⟩:=Option.map_eq_some_iff.1 hz
          have hqj:=hO.old j y1 hj hjn hy1
          rw[woken_quitsD hqj,upd_ne q k (Ne.symm hji)]
          simp only[Conf.after]
          rw[Deaf_other c.t hji _ evs_g]
          exact hqj
        ·rw[after_size]at hj
         simp only[Conf.after]
         rw[Deaf_other c.t (g':=i) (by omega) _ evs_g]
         exact hO.above j hj
  exact fun y c q hI hO=>key _ y c q hI hO rfl
end
end Go.Proofs.YtdianedehhecoaaGreatDoor.Co
/- Goroutine 0 waits for a worker: the points of both; what either may do at each. -/
namespace Go.Proofs.YtdianedehhecoaaGreatDoor.Co
variable [Loops]
open Go.Conc (G QuitsD woken_run awake_of woken awake semEvents)
def rdE (a:Addr):Event:=⟨.cell a,false,true⟩
def wrE (a:Addr):Event:=⟨.cell a,true,true⟩
def mkE (m:Mark):Event:=⟨.mark m,false,true⟩
def KK:Int:=4294967296
structure Wk where
 p:Program
 ty:TypeId
 wg:Nat
 End:Goroutine→Prop
def Wk.at (k:Wk)(w:World)(st sm:Int):Prop:=w.heap[k.wg]? = some (.cells #[.int .u64 st,.int .u32 sm] k.ty (0,0))
def Wk.U (k:Wk)(w:World):Prop:=∃ st sm,k.at w st sm
def Wk.st (k:Wk):Addr:=⟨k.wg,0,none⟩
def Wk.sm (k:Wk):Addr:=⟨k.wg,1,none⟩
inductive QTo (p:Program) (m:Bool) (U:World→Prop) (X:Nat→Goroutine→Prop):Nat→Nat→Goroutine→Prop
 | here {δ:Nat} {g:Goroutine}:X δ g→QTo p m U X 0 δ g
 | step {r δ:Nat} {g g':Goroutine} {es:Array Event}:g.status=.running→(∀ e∈es,e.mute=true)→(∀ w,U w→stepG p m g w=.go g' w es)→QTo p m U X r (Go.deafBehind δ es) g'→QTo p m U X (r+1) δ g
section
variable (k:Wk)
abbrev MTo (X:Nat→Goroutine→Prop):=QTo k.p true k.U X
abbrev WTo (X:Nat→Goroutine→Prop):=QTo k.p false k.U X
def Acq (δ:Nat)(a:Goroutine):Prop:=δ=0∧a.status=.running∧∃ a',(∀ w,k.U w→stepG k.p true a w=.go a' w #[mkE (.acquire k.st)])∧k.End a'
def Ld0 (δ:Nat)(a:Goroutine):Prop:=δ=1∧a.status=.running∧∃ a' r,(∀ w,k.at w 0 0→stepG k.p true a w=.go a' w #[rdE k.st])∧MTo k (Acq k) r 1 a'
def Sma (δ:Nat)(a:Goroutine):Prop:=δ=1∧a.status=.running∧a.offers=none∧(∀ st w,k.at w st 0→stepG k.p true a w=.go { a with status:=.blocked } w #[])∧∃ a' r,(∀ w,k.at w 0 1→stepG k.p true a w=.go a' (w.setCell k.sm (.int .u32 0)) (semEvents k.sm))∧MTo k (Ld0 k) r 1 a'
def Wr (δ:Nat)(a:Goroutine):Prop:=δ=1∧a.status=.running∧∃ a' r,(∀ w,k.U w→stepG k.p true a w=.go a' w #[mkE (.write k.sm)])∧MTo k (Sma k) r 1 a'
def Cas (δ:Nat)(a:Goroutine):Prop:=δ=1∧a.status=.running∧(∃ a' r,(∀ w,k.at w KK 0→stepG k.p true a w=.go a' (w.setCell k.st (.int .u64 (KK+1))) #[rdE k.st,wrE k.st])∧MTo k (Wr k) r 1 a')∧∃ a' r,(∀ w,k.at w 0 0→stepG k.p true a w=.go a' w #[rdE k.st])∧MTo k (Ld0 k) r 1 a'
def Ld (δ:Nat)(a:Goroutine):Prop:=δ=1∧a.status=.running∧(∃ a' r,(∀ w,k.at w KK 0→stepG k.p true a w=.go a' w #[rdE k.st])∧MTo k (Cas k) r 1 a')∧∃ a' r,(∀ w,k.at w 0 0→stepG k.p true a w=.go a' w #[rdE k.st])∧MTo k (Acq k) r 1 a'
def ZV (δ:Nat)(b:Goroutine):Prop:=δ=1∧b.status=.running∧mayWake k.p b=true∧∃ b' q,(∀ w,k.at w 0 0→stepG k.p false b w=.go b' (w.setCell k.sm (.int .u32 1)) (semEvents k.sm))∧QuitsD k.p q 1 b'
def ZS (δ:Nat)(b:Goroutine):Prop:=δ=1∧b.status=.running∧∃ b' r,(∀ w,k.at w 1 0→stepG k.p false b w=.go b' (w.setCell k.st (.int .u64 0)) #[wrE k.st])∧WTo k (ZV k) r 1 b'
def ZL (δ:Nat)(b:Goroutine):Prop:=δ=1∧b.status=.running∧∃ b' r,(∀ w,k.at w 1 0→stepG k.p false b w=.go b' w #[rdE k.st])∧WTo k (ZS k) r 1 b'
def ZA (δ:Nat)(b:Goroutine):Prop:=δ=1∧b.status=.running∧(∃ b' q,(∀ w,k.at w KK 0→stepG k.p false b w=.go b' (w.setCell k.st (.int .u64 0)) #[rdE k.st,wrE k.st])∧QuitsD k.p q 1 b')∧∃ b' r,(∀ w,k.at w (KK+1) 0→stepG k.p false b w=.go b' (w.setCell k.st (.int .u64 1)) #[rdE k.st,wrE k.st])∧WTo k (ZL k) r 1 b'
def ZR (δ:Nat)(b:Goroutine):Prop:=δ=0∧b.status=.running∧∃ b' r,(∀ w,k.U w→stepG k.p false b w=.go b' w #[mkE (.releaseMerge k.st)])∧WTo k (ZA k) r 0 b'
inductive Mz:Nat × Nat→Nat→Goroutine→Prop
 | ld {r δ:Nat} {a:Goroutine}:MTo k (Ld k) r δ a→Mz (4,r) δ a
 | cas {r δ:Nat} {a:Goroutine}:MTo k (Cas k) r δ a→Mz (3,r) δ a
 | ld0 {r δ:Nat} {a:Goroutine}:MTo k (Ld0 k) r δ a→Mz (2,r) δ a
 | acq {r δ:Nat} {a:Goroutine}:MTo k (Acq k) r δ a→Mz (1,r) δ a
inductive Mf:Nat × Nat→Nat→Goroutine→Prop
 | wr {r δ:Nat} {a:Goroutine}:MTo k (Wr k) r δ a→Mf (6,r) δ a
 | sem {r δ:Nat} {a:Goroutine}:MTo k (Sma k) r δ a→Mf (5,r) δ a
inductive Rg:Nat × Nat→Nat→Goroutine→Prop
 | wr {r δ:Nat} {a:Goroutine}:MTo k (Wr k) r δ a→Rg (2,r) δ a
 | sem {r δ:Nat} {a:Goroutine}:MTo k (Sma k) r δ a→Rg (1,r) δ a
 | park {δ:Nat} {a:Goroutine}:Sma k δ a→Rg (0,0) δ { a with status:=.blocked }
inductive Ur:Nat × Nat→Nat→Goroutine→Prop
 | ld {r δ:Nat} {a:Goroutine}:MTo k (Ld k) r δ a→Ur (4,r) δ a
 | cas {r δ:Nat} {a:Goroutine}:MTo k (Cas k) r δ a→Ur (3,r) δ a
end
abbrev Lx:Nat × Nat→Nat × Nat→Prop:=Prod.Lex (·<·) (·<·)
theorem lx_wf:WellFounded Lx:=(Prod.lex Nat.lt_wfRel Nat.lt_wfRel).wf
theorem lx_in {s r:Nat}:Lx (s,r) (s,r+1):=.right _ (Nat.lt_succ_self r)
theorem lx_dn {s s' r r':Nat}(h:s<s'):Lx (s,r) (s',r'):=.left _ _ h
section
variable {k:Wk} {D:Nat→Prop} {w:World} {a:Goroutine} {y:Nat × Nat} {δ:Nat}
theorem Wk.at.u {st sm:Int}(h:k.at w st sm):k.U w:=⟨st,sm,h⟩
theorem Wk.at.set_st {st sm:Int}(h:k.at w st sm)(v:Int):k.at (w.setCell k.st (.int .u64 v)) v sm:=by
 unfold Wk.at Wk.st
 rw[heap_setCell_same w k.wg 0 _ _ _ h]
 simp
theorem Wk.at.set_sm {st sm:Int}(h:k.at w st sm)(v:Int):k.at (w.setCell k.sm (.int .u32 v)) st v:=by
 unfold Wk.at Wk.sm
 rw[heap_setCell_same w k.wg 1 _ _ _ h]
 simp
theorem Wk.at.drew {st sm:Int}(h:k.at w st sm)(d:Nat):k.at (w.at d) st sm:=h
def kept (k:Wk)(D:Nat→Prop)(es:Array Event):Prop:=∀ e∈es,hush D e∧MemAct.ofEvent e≠.mark (.release k.st)
theorem touch_none_mute {e:Event}(h:e.mute=true):(MemAct.ofEvent e).touch? = none:=Go.Conc.touch_mute h
theorem kept_mute {es:Array Event}(h:∀ e∈es,e.mute=true):kept k D es:=fun e he=>by
 refine ⟨fun x hx=>(by rw[touch_none_mute (h e he)]at hx;cases hx),fun hr=>?_⟩
 have:=h e he
 obtain ⟨loc,w,s⟩:=e
 cases loc with
 | mark m=>cases m<;>simp[Event.mute]at this<;>simp[MemAct.ofEvent]at hr
 | _=>simp[Event.mute]at this
theorem kept_nil:kept k D #[]:=fun e he=>by simp at he
theorem kept_rd (hD:D k.wg):kept k D #[rdE k.st]:=fun e he=>by
 simp only[List.mem_toArray,List.mem_cons,List.not_mem_nil,or_false]at he
 subst he
 exact ⟨fun x hx=>by simp[MemAct.ofEvent,MemAct.touch?,rdE]at hx;subst hx;exact ⟨hD,by simp⟩,by simp[MemAct.ofEvent,rdE]⟩
theorem kept_rdwr (hD:D k.wg):kept k D #[rdE k.st,wrE k.st]:=fun e he=>by
 simp only[List.mem_toArray,List.mem_cons,List.not_mem_nil,or_false]at he
 rcases he with rfl|rfl
 ·exact kept_rd hD _ (by simp)
 ·exact ⟨fun x hx=>by simp[MemAct.ofEvent,MemAct.touch?,wrE]at hx;subst hx;exact ⟨hD,by simp⟩,by simp[MemAct.ofEvent,wrE]⟩
theorem kept_write (hD:D k.wg):kept k D #[mkE (.write k.sm)]:=fun e he=>by
 simp only[List.mem_toArray,List.mem_cons,List.not_mem_nil,or_false]at he
 subst he
 exact ⟨fun x hx=>by simp[MemAct.ofEvent,MemAct.touch?,mkE]at hx;subst hx;exact ⟨hD,by simp⟩,by simp[MemAct.ofEvent,mkE]⟩
theorem kept_sem (hD:D k.wg):kept k D (semEvents k.sm):=fun e he=>by
 simp only[semEvents,List.mem_toArray,List.mem_cons,List.not_mem_nil,or_false]at he
 rcases he with rfl|rfl|rfl|rfl
 ·exact kept_mute (es:=#[⟨.mark .disable,false,true⟩]) (by simp[Event.mute]) _ (by simp)
 ·exact ⟨fun x hx=>by simp[MemAct.ofEvent,MemAct.touch?]at hx;subst hx;exact ⟨hD,by simp⟩,by simp[MemAct.ofEvent]⟩
 ·exact ⟨fun x hx=>by simp[MemAct.ofEvent,MemAct.touch?]at hx;subst hx;exact ⟨hD,by simp⟩,by simp[MemAct.ofEvent]⟩
 ·exact kept_mute (es:=#[⟨.mark .enable,false,true⟩]) (by simp[Event.mute]) _ (by simp)
theorem QTo.cases {p:Program}{m:Bool}{U:World→Prop}{X:Nat→Goroutine→Prop}{r:Nat}{g:Goroutine}(h:QTo p m U X r δ g)(hX:X δ g→g.status=.running):g.status=.running∧(X δ g∨∃ r' g' es,r=r'+1∧(∀ e∈es,e.mute=true)∧(∀ w,U w→stepG p m g w=.go g' w es)∧QTo p m U X r' (Go.deafBehind δ es) g'):=by
 cases h with
 | here h=>exact ⟨hX h,.inl h⟩
 | step h1 h2 h3 h4=>exact ⟨h1,.inr ⟨_,_,_,rfl,h2,h3,h4⟩⟩
theorem Mz.step (hD:D k.wg)(h:Mz k y δ a)(hw:k.at w 0 0):a.status=.running∧∃ a' ev,stepG k.p true a w=.go a' w ev∧((kept k D ev∧∃ y',Lx y' y∧Mz k y' (Go.deafBehind δ ev) a')∨(δ=0∧ev=#[mkE (.acquire k.st)]∧k.End a'∧Lx (0,0) y)):=by
 cases h with
 | ld h =>
  obtain ⟨h0,⟨rfl,_,_,a',r,h1,h2⟩|⟨r',g',es,rfl,h1,h2,h3⟩⟩:=h.cases fun x=>x.2.1
  ·exact ⟨h0,a',_,h1 w hw,.inl ⟨kept_rd hD,_,lx_dn (by decide),.acq h2⟩⟩
  ·exact ⟨h0,g',es,h2 w hw.u,.inl ⟨kept_mute h1,_,lx_in,.ld h3⟩⟩
 | cas h =>
  obtain ⟨h0,⟨rfl,_,_,a',r,h1,h2⟩|⟨r',g',es,rfl,h1,h2,h3⟩⟩:=h.cases fun x=>x.2.1
  ·exact ⟨h0,a',_,h1 w hw,.inl ⟨kept_rd hD,_,lx_dn (by decide),.ld0 h2⟩⟩
  ·exact ⟨h0,g',es,h2 w hw.u,.inl ⟨kept_mute h1,_,lx_in,.cas h3⟩⟩
 | ld0 h =>
  obtain ⟨h0,⟨rfl,_,a',r,h1,h2⟩|⟨r',g',es,rfl,h1,h2,h3⟩⟩:=h.cases fun x=>x.2.1
  ·exact ⟨h0,a',_,h1 w hw,.inl ⟨kept_rd hD,_,lx_dn (by decide),.acq h2⟩⟩
  ·exact ⟨h0,g',es,h2 w hw.u,.inl ⟨kept_mute h1,_,lx_in,.ld0 h3⟩⟩
 | acq h =>
  obtain ⟨h0,⟨rfl,_,a',h1,h2⟩|⟨r',g',es,rfl,h1,h2,h3⟩⟩:=h.cases fun x=>x.2.1
  ·exact ⟨h0,a',_,h1 w hw.u,.inr ⟨rfl,rfl,h2,lx_dn (by decide)⟩⟩
  ·exact ⟨h0,g',es,h2 w hw.u,.inl ⟨kept_mute h1,_,lx_in,.acq h3⟩⟩
theorem Mf.step (hD:D k.wg)(h:Mf k y δ a)(hw:k.at w 0 1):a.status=.running∧∃ a' w' ev,stepG k.p true a w=.go a' w' ev∧kept k D ev∧((w'=w∧∃ y',Lx y' y∧Mf k y' (Go.deafBehind δ ev) a')∨(w'=w.setCell k.sm (.int .u32 0)∧∃ y',Lx y' y∧Mz k y' (Go.deafBehind δ ev) a')):=by
 cases h with
 | wr h =>
  obtain ⟨h0,⟨rfl,_,a',r,h1,h2⟩|⟨r',g',es,rfl,h1,h2,h3⟩⟩:=h.cases fun x=>x.2.1
  ·exact ⟨h0,a',w,_,h1 w hw.u,kept_write hD,.inl ⟨rfl,_,lx_dn (by decide),.sem h2⟩⟩
  ·exact ⟨h0,g',w,es,h2 w hw.u,kept_mute h1,.inl ⟨rfl,_,lx_in,.wr h3⟩⟩
 | sem h =>
  obtain ⟨h0,⟨rfl,_,_,_,a',r,h1,h2⟩|⟨r',g',es,rfl,h1,h2,h3⟩⟩:=h.cases fun x=>x.2.1
  ·exact ⟨h0,a',_,_,h1 w hw,kept_sem hD,.inr ⟨rfl,_,lx_dn (by decide),.ld0 h2⟩⟩
  ·exact ⟨h0,g',w,es,h2 w hw.u,kept_mute h1,.inl ⟨rfl,_,lx_in,.sem h3⟩⟩
theorem Rg.step (hD:D k.wg)(h:Rg k y δ a)(hr:a.status=.running){st:Int}(hw:k.at w st 0):∃ a' ev,stepG k.p true a w=.go a' w ev∧kept k D ev∧∃ y',Lx y' y∧Rg k y' (Go.deafBehind δ ev) a':=by
 cases h with
 | wr h =>
  obtain ⟨h0,⟨rfl,_,a',r,h1,h2⟩|⟨r',g',es,rfl,h1,h2,h3⟩⟩:=h.cases fun x=>x.2.1
  ·exact ⟨a',_,h1 w hw.u,kept_write hD,_,lx_dn (by decide),.sem h2⟩
  ·exact ⟨g',es,h2 w hw.u,kept_mute h1,_,lx_in,.wr h3⟩
 | sem h =>
  obtain ⟨h0,⟨rfl,h5,h6,h1,h2⟩|⟨r',g',es,rfl,h1,h2,h3⟩⟩:=h.cases fun x=>x.2.1
  ·exact ⟨_,#[],h1 st w hw,kept_nil,_,lx_dn (by decide),.park ⟨rfl,h5,h6,h1,h2⟩⟩
  ·exact ⟨g',es,h2 w hw.u,kept_mute h1,_,lx_in,.sem h3⟩
 | park h=>cases hr
theorem Rg.awake (h:Rg k y δ a):awake a:=by
 cases h with
 | wr h=>exact awake_of (.inl (h.cases fun x=>x.2.1).1)
 | sem h=>exact awake_of (.inl (h.cases fun x=>x.2.1).1)
 | park h=>exact awake_of (.inr (.inl rfl))
theorem again_park {g:Goroutine}(hs:g.status=.running)(ho:g.offers=none)(w:World):({ g with status:=.blocked }:Goroutine).again w=g:=by
 obtain ⟨fr,cs,stt,dy,off⟩:=g
 simp only at hs ho
 subst hs ho
 simp[Goroutine.again]
theorem Rg.again (h:Rg k y δ a)(w:World):∃ y',Mf k y' δ (a.again w)∧∃ y',Rg k y' δ (a.again w):=by
 cases h with
 | wr h=>rw[Go.Conc.again_running w (.inl (h.cases fun x=>x.2.1).1)];exact ⟨_,.wr h,_,.wr h⟩
 | sem h=>rw[Go.Conc.again_running w (.inl (h.cases fun x=>x.2.1).1)];exact ⟨_,.sem h,_,.sem h⟩
 | park h=>rw[again_park h.2.1 h.2.2.1];exact ⟨_,.sem (.here h),_,.sem (.here h)⟩
theorem Rg.woken {p:Program}{g g':Goroutine}(h:Rg k y δ a)(w:World):∃ y',Rg k y' δ (woken p g g' w a):=by
 unfold Go.Conc.woken
 split
 ·obtain ⟨_,_,y',h2⟩:=h.again w
  exact ⟨y',h2⟩
 ·exact ⟨y,h⟩
theorem Ur.run (h:Ur k y δ a):a.status=.running:=by
 cases h with
 | ld h=>exact (h.cases fun x=>x.2.1).1
 | cas h=>exact (h.cases fun x=>x.2.1).1
theorem Ur.zero (h:Ur k y δ a):Mz k y δ a:=by
 cases h with
 | ld h=>exact .ld h
 | cas h=>exact .cas h
theorem Ur.step (hD:D k.wg)(h:Ur k y δ a)(hw:k.at w KK 0):∃ a' w' ev,stepG k.p true a w=.go a' w' ev∧kept k D ev∧((w'=w∧∃ y',Lx y' y∧Ur k y' (Go.deafBehind δ ev) a')∨(w'=w.setCell k.st (.int .u64 (KK+1))∧∃ y',Lx y' y∧Rg k y' (Go.deafBehind δ ev) a')):=by
 cases h with
 | ld h =>
  obtain ⟨h0,⟨rfl,_,⟨a',r,h1,h2⟩,_⟩|⟨r',g',es,rfl,h1,h2,h3⟩⟩:=h.cases fun x=>x.2.1
  ·exact ⟨a',w,_,h1 w hw,kept_rd hD,.inl ⟨rfl,_,lx_dn (by decide),.cas h2⟩⟩
  ·exact ⟨g',w,es,h2 w hw.u,kept_mute h1,.inl ⟨rfl,_,lx_in,.ld h3⟩⟩
 | cas h =>
  obtain ⟨h0,⟨rfl,_,⟨a',r,h1,h2⟩,_⟩|⟨r',g',es,rfl,h1,h2,h3⟩⟩:=h.cases fun x=>x.2.1
  ·exact ⟨a',_,_,h1 w hw,kept_rdwr hD,.inr ⟨rfl,_,lx_dn (by decide),.wr h2⟩⟩
  ·exact ⟨g',w,es,h2 w hw.u,kept_mute h1,.inl ⟨rfl,_,lx_in,.cas h3⟩⟩
theorem Mz.run (h:Mz k y δ a):a.status=.running:=by
 cases h with
 | ld h=>exact (h.cases fun x=>x.2.1).1
 | cas h=>exact (h.cases fun x=>x.2.1).1
 | ld0 h=>exact (h.cases fun x=>x.2.1).1
 | acq h=>exact (h.cases fun x=>x.2.1).1
theorem Mf.run (h:Mf k y δ a):a.status=.running:=by
 cases h with
 | wr h=>exact (h.cases fun x=>x.2.1).1
 | sem h=>exact (h.cases fun x=>x.2.1).1
def By (k:Wk):Bool→Nat × Nat→Nat→Goroutine→Prop
 | false=>Ur k
 | true=>Rg k
def stOf:Bool→Int
 | false=>KK
 | true=>KK+1
variable {g:Bool}
theorem By.awake (h:By k g y δ a):Go.Conc.awake a:=by
 cases g with
 | false=>exact awake_of (.inl (Ur.run h))
 | true=>exact Rg.awake h
theorem By.woken {p:Program}{x x':Goroutine}(h:By k g y δ a)(w:World):∃ y',By k g y' δ (Go.Conc.woken p x x' w a):=by
 cases g with
 | false=>exact ⟨y,by rw[woken_run (Ur.run h)];exact h⟩
 | true=>exact Rg.woken h w
theorem By.step (hD:D k.wg)(h:By k g y δ a)(hr:a.status=.running)(hw:k.at w (stOf g) 0):∃ a' w' ev g' y',stepG k.p true a w=.go a' w' ev∧kept k D ev∧Lx y' y∧By k g' y' (Go.deafBehind δ ev) a'∧k.at w' (stOf g') 0∧(w'=w∨∃ v,w'=w.setCell k.st v):=by
 cases g with
 | false =>
  obtain ⟨a',w',ev,h1,h2,⟨rfl,y',h3,h4⟩|⟨rfl,y',h3,h4⟩⟩:=Ur.step hD h hw
  ·exact ⟨a',_,ev,false,y',h1,h2,h3,h4,hw,.inl rfl⟩
  ·exact ⟨a',_,ev,true,y',h1,h2,h3,h4,hw.set_st _,.inr ⟨_,rfl⟩⟩
 | true =>
  obtain ⟨a',ev,h1,h2,y',h3,h4⟩:=Rg.step hD h hr hw
  exact ⟨a',w,ev,true,y',h1,h2,h3,h4,hw,.inl rfl⟩
theorem Gh.group {Γ:Nat→Prop}{u b:World}(h:Gh Γ u b){x:Addr}(hx:Γ x.block)(hs:x.spot=none)(v:Value):Gh Γ u (b.setCell x v):=by
 refine ⟨h.os,h.output,by rw[World.size_setCell];exact h.size,fun j hj=>?_,fun j hj=>?_,h.calm,h.grew⟩
 ·rw[heap_setCell_other _ _ _ _ (fun e=>hj (by rw[show j=x.block from e];exact hx))];exact h.same j hj
 ·by_cases e:j=x.block
  ·subst e
   obtain ⟨c,t,c',e1,e2,e3,e4⟩:=h.ghost _ hj
   obtain ⟨bl,off,sp⟩:=x
   simp only at hs
   subst hs
   exact ⟨c,t,_,e1,heap_setCell_same b bl off c' t v e2,by simpa using e3,e4⟩
  ·obtain ⟨c,t,c',e1,e2,e3,e4⟩:=h.ghost _ hj
   exact ⟨c,t,c',e1,by rw[heap_setCell_other _ _ _ _ e];exact e2,e3,e4⟩
end
end Go.Proofs.YtdianedehhecoaaGreatDoor.Co
/- The worker's team: goroutine n at work while goroutine 0 comes to wait for it; the worker's end, and the join. -/
namespace Go.Proofs.YtdianedehhecoaaGreatDoor.Co
variable [Loops]
open Go.Conc (G Leavers QuitsD woken_run woken_quitsD awake_of woken awake semEvents Deaf)
structure Post (Γ D:Nat→Prop)(P:Two)(k:Wk)(n:Nat)(V:World→Prop):Prop where
 prog:k.p=P.g
 pos:0<n
 ghost:Γ k.wg
 shun:D k.wg
 sub:∀ j,D j→Γ j
 keep:∀ w w':World,(∀ j:Nat,Γ j→j≠k.wg→w'.heap[j]? = w.heap[j]?)→V w→V w'
structure WAt (Γ D:Nat→Prop)(P:Two)(k:Wk)(n:Nat)(V:World→Prop) (δ:Nat)(b:Goroutine)(c:Conf):Prop where
 both:∃ a y δ0 g,c.gs[0]? = some a∧c.gs[n]? = some b∧By k g y δ0 a∧k.at c.w (stOf g) 0∧PW D n δ0 δ c.t
 others:∃ q,Others P.g n q c
 v:V c.w
section
variable {Γ D:Nat→Prop} {P:Two} {k:Wk} {n:Nat} {V:World→Prop}
theorem shuns_sub {e:Event}(h:∀ j,D j→Γ j)(he:shuns Γ e):shuns D e:=by
 obtain ⟨loc,wr,sy⟩:=e
 cases loc with
 | cell a=>exact fun hd=>he (h _ hd)
 | obj r=>exact fun hd=>he (h _ hd)
 | mark m=>cases m<;>exact he
 | output=>exact he
 | goroutines=>exact he
theorem mild_sub {e:Event}(h:∀ j,D j→Γ j)(he:mild Γ e):mild D e:=he.imp (shuns_sub h) id
theorem work_turn (hp:Post Γ D P k n V) {δ δ':Nat}{b:Goroutine}{X:Goroutine→World→Prop}(c:Conf)(hb:b.status=.running)(hA:WAt Γ D P k n V δ b c)
  (h:∀ w,(∀ u,Gh Γ u c.w→Gh Γ u w)→V w→k.U w→∃ b' w' ev,stepG P.g false b w=.go b' w' ev∧(∀ e∈ev,mild D e)∧Go.deafBehind δ ev=δ'∧(∀ j:Nat,Γ j→w'.heap[j]? = w.heap[j]?)∧X b' w') :
  Leads P.g c fun c'=>∃ b',WAt Γ D P k n V δ' b' c'∧X b' c'.w:=by
 have hn0:n≠0:=Nat.ne_of_gt hp.pos
 obtain ⟨q,hq⟩:=hA.others
 obtain ⟨a0,y0,δ00,g0,i1,i2,i3,i4,i5⟩:=hA.both
 refine (duo_ind (p:=P.g) (n:=n) (lx:=(·<·)) (ly:=Lx) (X:=fun c1=>∃ b',(∃ a y δ0 g,c1.gs[0]? = some a∧c1.gs[n]? = some b'∧By k g y δ0 a∧k.at c1.w (stOf g) 0∧PW D n δ0 δ' c1.t)∧V c1.w∧X b' c1.w) Nat.lt_wfRel.wf lx_wf hp.pos
  (fun (x:Nat) y c1=>(x=1∧(∃ a δ0 g,c1.gs[0]? = some a∧c1.gs[n]? = some b∧By k g y δ0 a∧k.at c1.w (stOf g) 0∧PW D n δ0 δ c1.t)∧V c1.w∧∀ u,Gh Γ u c.w→Gh Γ u c1.w)∨∃ b',(∃ a y δ0 g,c1.gs[0]? = some a∧c1.gs[n]? = some b'∧By k g y δ0 a∧k.at c1.w (stOf g) 0∧PW D n δ0 δ' c1.t)∧V c1.w∧X b' c1.w)
  ?_ ?_ ?_ ?_ 1 y0 c q (.inl ⟨rfl,⟨a0,δ00,g0,i1,i2,i3,i4,i5⟩,hA.v,fun u hu=>hu⟩) hq).mono fun c' ⟨⟨b',h1,h2,h3⟩,h4⟩=>⟨b',⟨h1,h4,h2⟩,h3⟩
 ·rintro x y c1 (⟨rfl,⟨a,δ0,g,h1,h2,h3,h4,h5⟩,hV,hG⟩|hx)
  ·exact .inr ⟨a,b,h1,h2,h3.awake,awake_of (.inl hb),.inr hb⟩
  ·exact .inl hx
 ·rintro x y c1 a hI hX h0 hr d sl
  obtain ⟨rfl,⟨a1,δ0,g,h1,h2,h3,h4,h5⟩,hV,hG⟩:=hI.resolve_right hX
  obtain rfl:a1=a:=by rw[h0]at h1;exact (Option.some.inj h1).symm
  obtain ⟨a',w',ev,g',y',s1,s2,s3,s4,s5,s6⟩:=h3.step hp.shun hr (h4.drew d)
  rw[hp.prog]at s1
  refine ⟨a',w',ev,s1,y',s3,.inl ⟨rfl,⟨a',_,g',after_own h0,(by rw[after_else (Ne.symm hn0) h2,woken_run hb]),s4,s5,h5.main hn0 (fun e he=>(s2 e he).1) rfl⟩,?_,?_⟩⟩
  ·refine hp.keep c1.w w' (fun j hj hjw=>?_) hV
   rcases s6 with rfl|⟨v,rfl⟩
   ·rfl
   ·rw[heap_setCell_other _ _ _ _ hjw];rfl
  ·intro u hu
   show Gh Γ u w'
   rcases s6 with rfl|⟨v,rfl⟩
   ·exact (hG u hu).at d
   ·exact ((hG u hu).at d).group hp.ghost rfl v
 ·rintro x y c1 b1 hI hX hbn hr d sl
  obtain ⟨rfl,⟨a1,δ0,g,h1,h2,h3,h4,h5⟩,hV,hG⟩:=hI.resolve_right hX
  obtain rfl:b=b1:=by rw[hbn]at h2;exact (Option.some.inj h2).symm
  obtain ⟨b',w',ev,s1,s2,s3,s4,s5⟩:=h (c1.w.at d) (fun u hu=>(hG u hu).at d) (hp.keep c1.w _ (fun _ _ _=>rfl) hV) (h4.drew d).u
  obtain ⟨y',hy'⟩:=h3.woken (p:=P.g) (x:=b) (x':=b') w'
  refine ⟨b',w',ev,s1,0,y',Nat.zero_lt_one,.inr ⟨b',⟨_,y',δ0,g,after_else hn0 h1,after_own hbn,hy',?_,h5.work hn0 s2 s3⟩,?_,s5⟩⟩
  ·show w'.heap[k.wg]? = _
   rw[s4 _ hp.ghost];exact h4
  ·exact hp.keep c1.w w' (fun j hj _=>s4 j hj) hV
 ·rintro x y c1 j g g' d sl fn pos es hI hX hj hjn hm
  obtain ⟨rfl,⟨a1,δ0,g1,h1,h2,h3,h4,h5⟩,hV,hG⟩:=hI.resolve_right hX
  obtain ⟨y',hy'⟩:=h3.woken (p:=P.g) (x:=g) (x':=g') (c1.w.at d)
  exact ⟨y',.inl ⟨rfl,⟨_,δ0,g1,after_else (by omega) h1,(by rw[after_else hjn h2,woken_run hb]),hy',h4.drew d,h5.other (by omega) hjn hm⟩,hp.keep c1.w _ (fun _ _ _=>rfl) hV,fun u hu=>(hG u hu).at d⟩⟩
def workTeam (hp:Post Γ D P k n V):Team Γ P where
 main:=false
 At:=fun δ b c=>WAt Γ D P k n V δ b c
 turn:=fun c ha hM h=>work_turn hp c ha hM fun w hw _ _=>by
  obtain ⟨a',b',ev,q1,q2,q3,q4,q5⟩:=h w hw
  exact ⟨a',b',ev,q1,fun e he=>mild_sub hp.sub (q2 e he),q3,q4,q5⟩
theorem mute_mild {e:Event}(h:e.mute=true):mild D e:=by
 obtain ⟨loc,w,s⟩:=e
 cases loc with
 | mark m=>cases m<;>first|exact .inr (.inl rfl)|exact .inr (.inr (.inl rfl))|(simp[Event.mute]at h)
 | _=>simp[Event.mute]at h
theorem mute_atom {e:Event}(h:e.mute=true):atom D e:=fun x hx=>by rw [touch_none_mute h]at hx;cases hx
theorem atom_rd (hD:D k.wg):∀ e∈#[rdE k.st],atom D e:=fun e he=>by
 simp only[List.mem_toArray,List.mem_cons,List.not_mem_nil,or_false]at he
 subst he
 exact fun x hx=>by simp[MemAct.ofEvent,MemAct.touch?,rdE]at hx;subst hx;exact ⟨hD,by simp⟩
theorem atom_wr (hD:D k.wg):∀ e∈#[wrE k.st],atom D e:=fun e he=>by
 simp only[List.mem_toArray,List.mem_cons,List.not_mem_nil,or_false]at he
 subst he
 exact fun x hx=>by simp[MemAct.ofEvent,MemAct.touch?,wrE]at hx;subst hx;exact ⟨hD,by simp⟩
theorem atom_rdwr (hD:D k.wg):∀ e∈#[rdE k.st,wrE k.st],atom D e:=fun e he=>by
 simp only[List.mem_toArray,List.mem_cons,List.not_mem_nil,or_false]at he
 rcases he with rfl|rfl
 ·exact atom_rd hD _ (by simp)
 ·exact atom_wr hD _ (by simp)
theorem atom_sem (hD:D k.wg):∀ e∈semEvents k.sm,atom D e:=fun e he=>by
 simp only[semEvents,List.mem_toArray,List.mem_cons,List.not_mem_nil,or_false]at he
 rcases he with rfl|rfl|rfl|rfl
 ·exact mute_atom rfl
 ·exact fun x hx=>by simp[MemAct.ofEvent,MemAct.touch?]at hx;subst hx;exact ⟨hD,by simp⟩
 ·exact fun x hx=>by simp[MemAct.ofEvent,MemAct.touch?]at hx;subst hx;exact ⟨hD,by simp⟩
 ·exact mute_atom rfl
theorem up_rd {x:Addr}:∀ j,j≤(#[rdE x]:Array Event).size→0<Go.deafBehind 1 ((#[rdE x]:Array Event).extract 0 j)
 | 0,_=>Nat.one_pos
 | 1,_=>Nat.one_pos
theorem up_wr {x:Addr}:∀ j,j≤(#[wrE x]:Array Event).size→0<Go.deafBehind 1 ((#[wrE x]:Array Event).extract 0 j)
 | 0,_=>Nat.one_pos
 | 1,_=>Nat.one_pos
theorem up_rdwr {x y:Addr}:∀ j,j≤(#[rdE x,wrE y]:Array Event).size→0<Go.deafBehind 1 ((#[rdE x,wrE y]:Array Event).extract 0 j)
 | 0,_=>Nat.one_pos
 | 1,_=>Nat.one_pos
 | 2,_=>Nat.one_pos
theorem up_sem {x:Addr}:∀ j,j≤(semEvents x).size→0<Go.deafBehind 1 ((semEvents x).extract 0 j)
 | 0,_=>Nat.one_pos
 | 1,_=>Nat.two_pos
 | 2,_=>Nat.two_pos
 | 3,_=>Nat.two_pos
 | 4,_=>Nat.one_pos
theorem norel_atom {es:Array Event}{x:Addr}(h:∀ e∈es,(e.mute=true)∨∃ a w s,e=⟨.cell a,w,s⟩):∀ e∈es,MemAct.ofEvent e≠.mark (.release x):=fun e he hr=>by
 rcases h e he with hm|⟨a,w,s,rfl⟩
 ·obtain ⟨loc,w,s⟩:=e
  cases loc with
  | mark m=>cases m<;>simp[Event.mute]at hm<;>simp[MemAct.ofEvent]at hr
  | _=>simp[Event.mute]at hm
 ·simp[MemAct.ofEvent]at hr
inductive Ph (Γ D:Nat→Prop) (P:Two) (k:Wk) (n:Nat) (w0:World):Nat × Nat→Nat × Nat→Conf→Prop
 | a {c:Conf} {a b:Goroutine} {y:Nat × Nat} {r δ0 δ:Nat} {g:Bool}:c.gs[0]? = some a→c.gs[n]? = some b→(∀ u,Gh Γ u w0→Gh Γ u c.w)→By k g y δ0 a→k.at c.w (stOf g) 0→PW D n δ0 δ c.t→WTo k (ZR k) r δ b→Ph Γ D P k n w0 (9,r) y c
 | b {c:Conf} {a b:Goroutine} {y:Nat × Nat} {r δ0 δ:Nat} {g:Bool}:c.gs[0]? = some a→c.gs[n]? = some b→(∀ u,Gh Γ u w0→Gh Γ u c.w)→By k g y δ0 a→k.at c.w (stOf g) 0→PW D n δ0 δ c.t→(∃ i,RelW D n k.st c.t i)→WTo k (ZA k) r δ b→Ph Γ D P k n w0 (8,r) y c
 | l {c:Conf} {a b:Goroutine} {y:Nat × Nat} {r δ0 δ:Nat}:c.gs[0]? = some a→c.gs[n]? = some b→(∀ u,Gh Γ u w0→Gh Γ u c.w)→Rg k y δ0 a→k.at c.w 1 0→PW D n δ0 δ c.t→(∃ i,RelW D n k.st c.t i)→WTo k (ZL k) r δ b→Ph Γ D P k n w0 (7,r) y c
 | s {c:Conf} {a b:Goroutine} {y:Nat × Nat} {r δ0 δ:Nat}:c.gs[0]? = some a→c.gs[n]? = some b→(∀ u,Gh Γ u w0→Gh Γ u c.w)→Rg k y δ0 a→k.at c.w 1 0→PW D n δ0 δ c.t→(∃ i,RelW D n k.st c.t i)→WTo k (ZS k) r δ b→Ph Γ D P k n w0 (6,r) y c
 | v {c:Conf} {a b:Goroutine} {y:Nat × Nat} {r δ0 δ:Nat}:c.gs[0]? = some a→c.gs[n]? = some b→(∀ u,Gh Γ u w0→Gh Γ u c.w)→Rg k y δ0 a→k.at c.w 0 0→PW D n δ0 δ c.t→(∃ i,RelW D n k.st c.t i)→WTo k (ZV k) r δ b→Ph Γ D P k n w0 (5,r) y c
 | f {c:Conf} {a b:Goroutine} {y:Nat × Nat} {q δ0 δ:Nat}:c.gs[0]? = some a→c.gs[n]? = some b→(∀ u,Gh Γ u w0→Gh Γ u c.w)→Mf k y δ0 a→k.at c.w 0 1→PW D n δ0 δ c.t→(∃ i,RelW D n k.st c.t i)→QuitsD k.p q δ b→Ph Γ D P k n w0 (0,q) y c
 | z {c:Conf} {a b:Goroutine} {y:Nat × Nat} {q δ0 δ:Nat}:c.gs[0]? = some a→c.gs[n]? = some b→(∀ u,Gh Γ u w0→Gh Γ u c.w)→Mz k y δ0 a→k.at c.w 0 0→PW D n δ0 δ c.t→(∃ i,RelW D n k.st c.t i)→QuitsD k.p q δ b→Ph Γ D P k n w0 (0,q) y c
 | e {c:Conf} {a b:Goroutine} {y:Nat × Nat} {q:Nat}:c.gs[0]? = some a→c.gs[n]? = some b→(∀ u,Gh Γ u w0→Gh Γ u c.w)→k.End a→k.at c.w 0 0→PastD Γ 0 c.t→QuitsD k.p q (Deaf c.t n) b→Ph Γ D P k n w0 (0,q) y c
def PhX (Γ:Nat→Prop)(k:Wk)(n:Nat)(w0:World)(c:Conf):Prop:=∃ a b q,c.gs[0]? = some a∧c.gs[n]? = some b∧(∀ u,Gh Γ u w0→Gh Γ u c.w)∧k.End a∧k.at c.w 0 0∧PastD Γ 0 c.t∧QuitsD k.p q (Deaf c.t n) b
theorem sit_ph (hp:Post Γ D P k n V){w0:World}:∀ x y c,Ph Γ D P k n w0 x y c→PhX Γ k n w0 c∨∃ a b,c.gs[0]? = some a∧c.gs[n]? = some b∧awake a∧awake b∧(a.status=.running∨b.status=.running):=by
 intro x y c h
 cases h with
 | a h1 h2 h3 h4 h5 h6 h7=>exact .inr ⟨_,_,h1,h2,h4.awake,awake_of (.inl (h7.cases fun x=>x.2.1).1),.inr (h7.cases fun x=>x.2.1).1⟩
 | b h1 h2 h3 h4 h5 h6 h8 h7=>exact .inr ⟨_,_,h1,h2,h4.awake,awake_of (.inl (h7.cases fun x=>x.2.1).1),.inr (h7.cases fun x=>x.2.1).1⟩
 | l h1 h2 h3 h4 h5 h6 h8 h7=>exact .inr ⟨_,_,h1,h2,h4.awake,awake_of (.inl (h7.cases fun x=>x.2.1).1),.inr (h7.cases fun x=>x.2.1).1⟩
 | s h1 h2 h3 h4 h5 h6 h8 h7=>exact .inr ⟨_,_,h1,h2,h4.awake,awake_of (.inl (h7.cases fun x=>x.2.1).1),.inr (h7.cases fun x=>x.2.1).1⟩
 | v h1 h2 h3 h4 h5 h6 h8 h7=>exact .inr ⟨_,_,h1,h2,h4.awake,awake_of (.inl (h7.cases fun x=>x.2.1).1),.inr (h7.cases fun x=>x.2.1).1⟩
 | f h1 h2 h3 h4 h5 h6 h8 h7=>exact .inr ⟨_,_,h1,h2,awake_of (.inl h4.run),awake_of (h7.status.elim .inl fun x=>.inr (.inr x)),.inl h4.run⟩
 | z h1 h2 h3 h4 h5 h6 h8 h7=>exact .inr ⟨_,_,h1,h2,awake_of (.inl h4.run),awake_of (h7.status.elim .inl fun x=>.inr (.inr x)),.inl h4.run⟩
 | e h1 h2 h3 h4 h5 h6 h7=>exact .inl ⟨_,_,_,h1,h2,h3,h4,h5,h6,h7⟩
theorem kept_norel {g:Nat}{fn:FuncId}{pos:String}{es:Array Event}(h:kept k D es):∀ op∈MemOp.ofEvents g fn pos es,op.act≠.mark (.release k.st):=fun op hop=>by
 obtain ⟨e,he,rfl⟩:=Go.Conc.mem_ofEvents hop
 exact (h e he).2
theorem main_ph (hp:Post Γ D P k n V){w0:World}:∀ x y c a,Ph Γ D P k n w0 x y c→¬ PhX Γ k n w0 c→c.gs[0]? = some a→a.status=.running→∀ d sl,∃ a' w' ev,stepG P.g true a (c.w.at d)=.go a' w' ev∧∃ y',Lx y' y∧Ph Γ D P k n w0 x y' (c.after P.g 0 a a' w' sl a.frame.fn a.frame.place ev):=by
 intro x y c a h hX h0 hr d sl
 have hn0:n≠0:=Nat.ne_of_gt hp.pos
 cases h with
 | a h1 h2 h3 h4 h5 h6 h7 =>
  rw[h0]at h1;cases h1
  obtain ⟨a',w',ev,g',y',s1,s2,s3,s4,s5,s6⟩:=h4.step hp.shun hr (h5.drew d)
  rw[hp.prog]at s1
  refine ⟨a',w',ev,s1,y',s3,.a (after_own h0) (by rw[after_else (Ne.symm hn0) h2,woken_run (h7.cases fun x=>x.2.1).1]) (fun u hu=>?_) s4 s5 (h6.main hn0 (fun e he=>(s2 e he).1) rfl) h7⟩
  show Gh Γ u w'
  rcases s6 with rfl|⟨v,rfl⟩
  ·exact (h3 u hu).at d
  ·exact ((h3 u hu).at d).group hp.ghost rfl v
 | b h1 h2 h3 h4 h5 h6 h8 h7 =>
  rw[h0]at h1;cases h1
  obtain ⟨a',w',ev,g',y',s1,s2,s3,s4,s5,s6⟩:=h4.step hp.shun hr (h5.drew d)
  rw[hp.prog]at s1
  refine ⟨a',w',ev,s1,y',s3,.b (after_own h0) (by rw[after_else (Ne.symm hn0) h2,woken_run (h7.cases fun x=>x.2.1).1]) (fun u hu=>?_) s4 s5 (h6.main hn0 (fun e he=>(s2 e he).1) rfl) (h8.imp fun i hi=>hi.others (Ne.symm hn0) (kept_norel s2)) h7⟩
  show Gh Γ u w'
  rcases s6 with rfl|⟨v,rfl⟩
  ·exact (h3 u hu).at d
  ·exact ((h3 u hu).at d).group hp.ghost rfl v
 | l h1 h2 h3 h4 h5 h6 h8 h7 =>
  rw[h0]at h1;cases h1
  obtain ⟨a',ev,s1,s2,y',s3,s4⟩:=h4.step hp.shun hr (h5.drew d)
  rw[hp.prog]at s1
  exact ⟨a',_,ev,s1,y',s3,.l (after_own h0) (by rw[after_else (Ne.symm hn0) h2,woken_run (h7.cases fun x=>x.2.1).1]) (fun u hu=>(h3 u hu).at d) s4 (h5.drew d) (h6.main hn0 (fun e he=>(s2 e he).1) rfl) (h8.imp fun i hi=>hi.others (Ne.symm hn0) (kept_norel s2)) h7⟩
 | s h1 h2 h3 h4 h5 h6 h8 h7 =>
  rw[h0]at h1;cases h1
  obtain ⟨a',ev,s1,s2,y',s3,s4⟩:=h4.step hp.shun hr (h5.drew d)
  rw[hp.prog]at s1
  exact ⟨a',_,ev,s1,y',s3,.s (after_own h0) (by rw[after_else (Ne.symm hn0) h2,woken_run (h7.cases fun x=>x.2.1).1]) (fun u hu=>(h3 u hu).at d) s4 (h5.drew d) (h6.main hn0 (fun e he=>(s2 e he).1) rfl) (h8.imp fun i hi=>hi.others (Ne.symm hn0) (kept_norel s2)) h7⟩
 | v h1 h2 h3 h4 h5 h6 h8 h7 =>
  rw[h0]at h1;cases h1
  obtain ⟨a',ev,s1,s2,y',s3,s4⟩:=h4.step hp.shun hr (h5.drew d)
  rw[hp.prog]at s1
  exact ⟨a',_,ev,s1,y',s3,.v (after_own h0) (by rw[after_else (Ne.symm hn0) h2,woken_run (h7.cases fun x=>x.2.1).1]) (fun u hu=>(h3 u hu).at d) s4 (h5.drew d) (h6.main hn0 (fun e he=>(s2 e he).1) rfl) (h8.imp fun i hi=>hi.others (Ne.symm hn0) (kept_norel s2)) h7⟩
 | f h1 h2 h3 h4 h5 h6 h8 h7 =>
  rw[h0]at h1;cases h1
  obtain ⟨_,a',w',ev,s1,s2,⟨rfl,y',s3,s4⟩|⟨rfl,y',s3,s4⟩⟩:=h4.step hp.shun (h5.drew d)
  ·rw[hp.prog]at s1
   exact ⟨a',_,ev,s1,y',s3,.f (after_own h0) (by rw[after_else (Ne.symm hn0) h2,woken_quitsD (hp.prog▸h7)]) (fun u hu=>(h3 u hu).at d) s4 (h5.drew d) (h6.main hn0 (fun e he=>(s2 e he).1) rfl) (h8.imp fun i hi=>hi.others (Ne.symm hn0) (kept_norel s2)) h7⟩
  ·rw[hp.prog]at s1
   exact ⟨a',_,ev,s1,y',s3,.z (after_own h0) (by rw[after_else (Ne.symm hn0) h2,woken_quitsD (hp.prog▸h7)]) (fun u hu=>((h3 u hu).at d).group hp.ghost rfl _) s4 ((h5.drew d).set_sm 0) (h6.main hn0 (fun e he=>(s2 e he).1) rfl) (h8.imp fun i hi=>hi.others (Ne.symm hn0) (kept_norel s2)) h7⟩
 | z h1 h2 h3 h4 h5 h6 h8 h7 =>
  rw[h0]at h1;cases h1
  obtain ⟨_,a',ev,s1,⟨s2,y',s3,s4⟩|⟨rfl,rfl,s4,s3⟩⟩:=h4.step hp.shun (h5.drew d)
  ·rw[hp.prog]at s1
   exact ⟨a',_,ev,s1,y',s3,.z (after_own h0) (by rw[after_else (Ne.symm hn0) h2,woken_quitsD (hp.prog▸h7)]) (fun u hu=>(h3 u hu).at d) s4 (h5.drew d) (h6.main hn0 (fun e he=>(s2 e he).1) rfl) (h8.imp fun i hi=>hi.others (Ne.symm hn0) (kept_norel s2)) h7⟩
  ·rw[hp.prog]at s1
   obtain ⟨i,hi⟩:=h8
   refine ⟨a',_,_,s1,(0,0),s3,.e (after_own h0) (by rw[after_else (Ne.symm hn0) h2,woken_quitsD (hp.prog▸h7)]) (fun u hu=>(h3 u hu).at d) s4 (h5.drew d) (h6.join hn0 hi hp.sub) ?_⟩
   simp only[Conf.after]
   rw[Go.Conc.Deaf_other c.t (Ne.symm hn0) _ evs_g,h6.deafn]
   exact h7
 | e h1 h2 h3 h4 h5 h6 h7=>exact absurd ⟨_,_,_,h1,h2,h3,h4,h5,h6,h7⟩ hX
end
end Go.Proofs.YtdianedehhecoaaGreatDoor.Co
/- The worker's end and the join, on: the worker's own steps, the leavers', the whole. -/
namespace Go.Proofs.YtdianedehhecoaaGreatDoor.Co
variable [Loops]
open Go.Conc (G Leavers QuitsD woken_run woken_quitsD awake_of woken awake semEvents Deaf)
section
variable {Γ D:Nat→Prop} {P:Two} {k:Wk} {n:Nat} {V:World→Prop}
theorem norel_mutes {es:Array Event}{x:Addr}(h:∀ e∈es,e.mute=true):∀ e∈es,MemAct.ofEvent e≠.mark (.release x):=norel_atom fun e he=>.inl (h e he)
theorem norel_rd {x y:Addr}:∀ e∈#[rdE x],MemAct.ofEvent e≠.mark (.release y):=norel_atom fun e he=>by
 simp only[List.mem_toArray,List.mem_cons,List.not_mem_nil,or_false]at he
 exact .inr ⟨x,false,true,he⟩
theorem norel_wr {x y:Addr}:∀ e∈#[wrE x],MemAct.ofEvent e≠.mark (.release y):=norel_atom fun e he=>by
 simp only[List.mem_toArray,List.mem_cons,List.not_mem_nil,or_false]at he
 exact .inr ⟨x,true,true,he⟩
theorem norel_rdwr {x y z:Addr}:∀ e∈#[rdE x,wrE z],MemAct.ofEvent e≠.mark (.release y):=norel_atom fun e he=>by
 simp only[List.mem_toArray,List.mem_cons,List.not_mem_nil,or_false]at he
 rcases he with he|he
 ·exact .inr ⟨x,false,true,he⟩
 ·exact .inr ⟨z,true,true,he⟩
theorem norel_sem {x y:Addr}:∀ e∈semEvents x,MemAct.ofEvent e≠.mark (.release y):=norel_atom fun e he=>by
 simp only[semEvents,List.mem_toArray,List.mem_cons,List.not_mem_nil,or_false]at he
 rcases he with rfl|rfl|rfl|rfl
 ·exact .inl rfl
 ·exact .inr ⟨x,false,true,rfl⟩
 ·exact .inr ⟨x,true,true,rfl⟩
 ·exact .inl rfl
theorem RelW.mute {a:Addr}{t:Trace}{r:Nat}(h:RelW D n a t r){fn:FuncId}{pos:String}{es:Array Event}(hm:∀ e∈es,e.mute=true):RelW D n a (t++MemOp.ofEvents n fn pos es) r :=
 h.deaf (.inl fun e he=>touch_none_mute (hm e he)) (fun e he=>mute_atom (hm e he)) (norel_mutes hm)
theorem work_ph (hp:Post Γ D P k n V){w0:World}:∀ x y c b,Ph Γ D P k n w0 x y c→¬ PhX Γ k n w0 c→c.gs[n]? = some b→b.status=.running→∀ d sl,∃ b' w' ev,stepG P.g false b (c.w.at d)=.go b' w' ev∧∃ x' y',Lx x' x∧Ph Γ D P k n w0 x' y' (c.after P.g n b b' w' sl b.frame.fn b.frame.place ev):=by
 intro x y c b h hX hbn hr d sl
 have hn0:n≠0:=Nat.ne_of_gt hp.pos
 cases h with
 | a h1 h2 h3 h4 h5 h6 h7 =>
  rw[hbn]at h2;cases h2
  obtain ⟨_,⟨rfl,_,b',r,s1,s2⟩|⟨r',b',es,rfl,s1,s2,s3⟩⟩:=h7.cases fun x=>x.2.1
  ·have s1:=s1 _ (h5.drew d).u
   rw[hp.prog]at s1
   obtain ⟨y',hy'⟩:=h4.woken (p:=P.g) (x:=b) (x':=b') (c.w.at d)
   obtain ⟨p1,p2⟩:=h6.release hn0 k.st (fn:=b.frame.fn) (pos:=b.frame.place)
   exact ⟨b',_,_,s1,_,y',lx_dn (by decide),.b (after_else hn0 h1) (after_own hbn) (fun u hu=>(h3 u hu).at d) hy' (h5.drew d) p1 ⟨_,p2⟩ s2⟩
  ·have s2:=s2 _ (h5.drew d).u
   rw[hp.prog]at s2
   obtain ⟨y',hy'⟩:=h4.woken (p:=P.g) (x:=b) (x':=b') (c.w.at d)
   exact ⟨b',_,_,s2,_,y',lx_in,.a (after_else hn0 h1) (after_own hbn) (fun u hu=>(h3 u hu).at d) hy' (h5.drew d) (h6.work hn0 (fun e he=>mute_mild (s1 e he)) rfl) s3⟩
 | @b _ a _ _ _ _ _ g h1 h2 h3 h4 h5 h6 h8 h7 =>
  rw[hbn]at h2;cases h2
  obtain ⟨i,hi⟩:=h8
  obtain ⟨_,⟨rfl,_,⟨b',q,s1,s2⟩,b2,r,s3,s4⟩|⟨r',b',es,rfl,s1,s2,s3⟩⟩:=h7.cases fun x=>x.2.1
  ·cases g with
   | false =>
    have s1:=s1 _ (h5.drew d)
    rw[hp.prog]at s1
    exact ⟨b',_,_,s1,_,_,lx_dn (by decide),.z (after_else hn0 h1) (after_own hbn) (fun u hu=>((h3 u hu).at d).group hp.ghost rfl _) (by rw[woken_run (Ur.run h4)];exact Ur.zero h4) ((h5.drew d).set_st 0) (h6.atoms hn0 (atom_rdwr hp.shun) rfl) ⟨i,hi.deaf (.inr (by rw[h6.deafn];exact up_rdwr)) (atom_rdwr hp.shun) norel_rdwr⟩ s2⟩
   | true =>
    have s3:=s3 _ (h5.drew d)
    rw[hp.prog]at s3
    obtain ⟨y',hy'⟩:=Rg.woken (p:=P.g) (g:=b) (g':=b2) h4 ((c.w.at d).setCell k.st (.int .u64 1))
    exact ⟨b2,_,_,s3,_,y',lx_dn (by decide),.l (after_else hn0 h1) (after_own hbn) (fun u hu=>((h3 u hu).at d).group hp.ghost rfl _) hy' ((h5.drew d).set_st 1) (h6.atoms hn0 (atom_rdwr hp.shun) rfl) ⟨i,hi.deaf (.inr (by rw[h6.deafn];exact up_rdwr)) (atom_rdwr hp.shun) norel_rdwr⟩ s4⟩
  ·have s2:=s2 _ (h5.drew d).u
   rw[hp.prog]at s2
   obtain ⟨y',hy'⟩:=h4.woken (p:=P.g) (x:=b) (x':=b') (c.w.at d)
   exact ⟨b',_,_,s2,_,y',lx_in,.b (after_else hn0 h1) (after_own hbn) (fun u hu=>(h3 u hu).at d) hy' (h5.drew d) (h6.work hn0 (fun e he=>mute_mild (s1 e he)) rfl) ⟨i,hi.mute s1⟩ s3⟩
 | l h1 h2 h3 h4 h5 h6 h8 h7 =>
  rw[hbn]at h2;cases h2
  obtain ⟨i,hi⟩:=h8
  obtain ⟨_,⟨rfl,_,b',r,s1,s2⟩|⟨r',b',es,rfl,s1,s2,s3⟩⟩:=h7.cases fun x=>x.2.1
  ·have s1:=s1 _ (h5.drew d)
   rw[hp.prog]at s1
   obtain ⟨y',hy'⟩:=h4.woken (p:=P.g) (g:=b) (g':=b') (c.w.at d)
   exact ⟨b',_,_,s1,_,y',lx_dn (by decide),.s (after_else hn0 h1) (after_own hbn) (fun u hu=>(h3 u hu).at d) hy' (h5.drew d) (h6.atoms hn0 (atom_rd hp.shun) rfl) ⟨i,hi.deaf (.inr (by rw[h6.deafn];exact up_rd)) (atom_rd hp.shun) norel_rd⟩ s2⟩
  ·have s2:=s2 _ (h5.drew d).u
   rw[hp.prog]at s2
   obtain ⟨y',hy'⟩:=h4.woken (p:=P.g) (g:=b) (g':=b') (c.w.at d)
   exact ⟨b',_,_,s2,_,y',lx_in,.l (after_else hn0 h1) (after_own hbn) (fun u hu=>(h3 u hu).at d) hy' (h5.drew d) (h6.work hn0 (fun e he=>mute_mild (s1 e he)) rfl) ⟨i,hi.mute s1⟩ s3⟩
 | s h1 h2 h3 h4 h5 h6 h8 h7 =>
  rw[hbn]at h2;cases h2
  obtain ⟨i,hi⟩:=h8
  obtain ⟨_,⟨rfl,_,b',r,s1,s2⟩|⟨r',b',es,rfl,s1,s2,s3⟩⟩:=h7.cases fun x=>x.2.1
  ·have s1:=s1 _ (h5.drew d)
   rw[hp.prog]at s1
   obtain ⟨y',hy'⟩:=h4.woken (p:=P.g) (g:=b) (g':=b') ((c.w.at d).setCell k.st (.int .u64 0))
   exact ⟨b',_,_,s1,_,y',lx_dn (by decide),.v (after_else hn0 h1) (after_own hbn) (fun u hu=>((h3 u hu).at d).group hp.ghost rfl _) hy' ((h5.drew d).set_st 0) (h6.atoms hn0 (atom_wr hp.shun) rfl) ⟨i,hi.deaf (.inr (by rw[h6.deafn];exact up_wr)) (atom_wr hp.shun) norel_wr⟩ s2⟩
  ·have s2:=s2 _ (h5.drew d).u
   rw[hp.prog]at s2
   obtain ⟨y',hy'⟩:=h4.woken (p:=P.g) (g:=b) (g':=b') (c.w.at d)
   exact ⟨b',_,_,s2,_,y',lx_in,.s (after_else hn0 h1) (after_own hbn) (fun u hu=>(h3 u hu).at d) hy' (h5.drew d) (h6.work hn0 (fun e he=>mute_mild (s1 e he)) rfl) ⟨i,hi.mute s1⟩ s3⟩
 | @v _ a _ _ _ _ _ h1 h2 h3 h4 h5 h6 h8 h7 =>
  rw[hbn]at h2;cases h2
  obtain ⟨i,hi⟩:=h8
  obtain ⟨_,⟨rfl,_,mw,b',q,s1,s2⟩|⟨r',b',es,rfl,s1,s2,s3⟩⟩:=h7.cases fun x=>x.2.1
  ·have s1:=s1 _ (h5.drew d)
   rw[hp.prog]at s1
   obtain ⟨y',hy',_⟩:=h4.again ((c.w.at d).setCell k.sm (.int .u32 1))
   refine ⟨b',_,_,s1,_,y',lx_dn (by decide),.f (after_else hn0 h1) (after_own hbn) (fun u hu=>((h3 u hu).at d).group hp.ghost rfl _) ?_ ((h5.drew d).set_sm 1) (h6.atoms hn0 (atom_sem hp.shun) rfl) ⟨i,hi.deaf (.inr (by rw[h6.deafn];exact up_sem)) (atom_sem hp.shun) norel_sem⟩ s2⟩
   have hw:woken P.g b b' ((c.w.at d).setCell k.sm (.int .u32 1)) a=a.again ((c.w.at d).setCell k.sm (.int .u32 1)):=by
    unfold Go.Conc.woken
    rw[if_pos]
    rw[← hp.prog,mw]
    rcases s2.status with e|e<;>rw[e]<;>rfl
   rw[hw]
   exact hy'
  ·have s2:=s2 _ (h5.drew d).u
   rw[hp.prog]at s2
   obtain ⟨y',hy'⟩:=h4.woken (p:=P.g) (g:=b) (g':=b') (c.w.at d)
   exact ⟨b',_,_,s2,_,y',lx_in,.v (after_else hn0 h1) (after_own hbn) (fun u hu=>(h3 u hu).at d) hy' (h5.drew d) (h6.work hn0 (fun e he=>mute_mild (s1 e he)) rfl) ⟨i,hi.mute s1⟩ s3⟩
 | @f _ _ _ _ q _ _ h1 h2 h3 h4 h5 h6 h8 h7 =>
  rw[hbn]at h2;cases h2
  obtain ⟨i,hi⟩:=h8
  cases q with
  | zero=>rw[h7.1]at hr;cases hr
  | succ q =>
   rcases h7 with ⟨hf,_⟩|⟨_,b',es,s1,s2,s3⟩
   ·rw[hf]at hr;cases hr
   ·rw[hp.prog]at s2
    exact ⟨b',_,_,s2 _,_,_,lx_in,.f (after_else hn0 h1) (after_own hbn) (fun u hu=>(h3 u hu).at d) (by rw[woken_run h4.run];exact h4) (h5.drew d) (h6.work hn0 (fun e he=>mute_mild (s1 e he)) rfl) ⟨i,hi.mute s1⟩ s3⟩
 | @z _ _ _ _ q _ _ h1 h2 h3 h4 h5 h6 h8 h7 =>
  rw[hbn]at h2;cases h2
  obtain ⟨i,hi⟩:=h8
  cases q with
  | zero=>rw[h7.1]at hr;cases hr
  | succ q =>
   rcases h7 with ⟨hf,_⟩|⟨_,b',es,s1,s2,s3⟩
   ·rw[hf]at hr;cases hr
   ·rw[hp.prog]at s2
    exact ⟨b',_,_,s2 _,_,_,lx_in,.z (after_else hn0 h1) (after_own hbn) (fun u hu=>(h3 u hu).at d) (by rw[woken_run h4.run];exact h4) (h5.drew d) (h6.work hn0 (fun e he=>mute_mild (s1 e he)) rfl) ⟨i,hi.mute s1⟩ s3⟩
 | e h1 h2 h3 h4 h5 h6 h7=>exact absurd ⟨_,_,_,h1,h2,h3,h4,h5,h6,h7⟩ hX
theorem rest_ph (hp:Post Γ D P k n V){w0:World}:∀ x y c (j:Nat) g g' d sl fn pos es,Ph Γ D P k n w0 x y c→¬ PhX Γ k n w0 c→0<j→j≠n→(∀ e∈es,e.mute=true)→∃ y',Ph Γ D P k n w0 x y' (c.after P.g j g g' (c.w.at d) sl fn pos es):=by
 intro x y c j g g' d sl fn pos es h hX hj hjn hm
 have hj0:j≠0:=Nat.ne_of_gt hj
 cases h with
 | a h1 h2 h3 h4 h5 h6 h7 =>
  obtain ⟨y',hy'⟩:=h4.woken (p:=P.g) (x:=g) (x':=g') (c.w.at d)
  exact ⟨y',.a (after_else hj0 h1) (by rw[after_else hjn h2,woken_run (h7.cases fun x=>x.2.1).1]) (fun u hu=>(h3 u hu).at d) hy' (h5.drew d) (h6.other hj0 hjn hm) h7⟩
 | b h1 h2 h3 h4 h5 h6 h8 h7 =>
  obtain ⟨y',hy'⟩:=h4.woken (p:=P.g) (x:=g) (x':=g') (c.w.at d)
  exact ⟨y',.b (after_else hj0 h1) (by rw[after_else hjn h2,woken_run (h7.cases fun x=>x.2.1).1]) (fun u hu=>(h3 u hu).at d) hy' (h5.drew d) (h6.other hj0 hjn hm) (h8.imp fun i hi=>hi.others hjn (norel_mute hm)) h7⟩
 | l h1 h2 h3 h4 h5 h6 h8 h7 =>
  obtain ⟨y',hy'⟩:=h4.woken (p:=P.g) (g:=g) (g':=g') (c.w.at d)
  exact ⟨y',.l (after_else hj0 h1) (by rw[after_else hjn h2,woken_run (h7.cases fun x=>x.2.1).1]) (fun u hu=>(h3 u hu).at d) hy' (h5.drew d) (h6.other hj0 hjn hm) (h8.imp fun i hi=>hi.others hjn (norel_mute hm)) h7⟩
 | s h1 h2 h3 h4 h5 h6 h8 h7 =>
  obtain ⟨y',hy'⟩:=h4.woken (p:=P.g) (g:=g) (g':=g') (c.w.at d)
  exact ⟨y',.s (after_else hj0 h1) (by rw[after_else hjn h2,woken_run (h7.cases fun x=>x.2.1).1]) (fun u hu=>(h3 u hu).at d) hy' (h5.drew d) (h6.other hj0 hjn hm) (h8.imp fun i hi=>hi.others hjn (norel_mute hm)) h7⟩
 | v h1 h2 h3 h4 h5 h6 h8 h7 =>
  obtain ⟨y',hy'⟩:=h4.woken (p:=P.g) (g:=g) (g':=g') (c.w.at d)
  exact ⟨y',.v (after_else hj0 h1) (by rw[after_else hjn h2,woken_run (h7.cases fun x=>x.2.1).1]) (fun u hu=>(h3 u hu).at d) hy' (h5.drew d) (h6.other hj0 hjn hm) (h8.imp fun i hi=>hi.others hjn (norel_mute hm)) h7⟩
 | f h1 h2 h3 h4 h5 h6 h8 h7 =>
  exact ⟨y,.f (after_else hj0 h1) (by rw[after_else hjn h2,woken_quitsD (hp.prog▸h7)]) (fun u hu=>(h3 u hu).at d) (by rw[woken_run h4.run];exact h4) (h5.drew d) (h6.other hj0 hjn hm) (h8.imp fun i hi=>hi.others hjn (norel_mute hm)) h7⟩
 | z h1 h2 h3 h4 h5 h6 h8 h7 =>
  exact ⟨y,.z (after_else hj0 h1) (by rw[after_else hjn h2,woken_quitsD (hp.prog▸h7)]) (fun u hu=>(h3 u hu).at d) (by rw[woken_run h4.run];exact h4) (h5.drew d) (h6.other hj0 hjn hm) (h8.imp fun i hi=>hi.others hjn (norel_mute hm)) h7⟩
 | e h1 h2 h3 h4 h5 h6 h7=>exact absurd ⟨_,_,_,h1,h2,h3,h4,h5,h6,h7⟩ hX
theorem work_ends (hp:Post Γ D P k n V) {r δ:Nat}{b:Goroutine}{c:Conf}(hA:WAt Γ D P k n V δ b c)(hz:WTo k (ZR k) r δ b) :
  Leads P.g c fun c'=>∃ a',k.End a'∧MainD Γ P 0 a' c'∧(∀ u,Gh Γ u c.w→Gh Γ u c'.w)∧k.at c'.w 0 0:=by
 obtain ⟨q,hq⟩:=hA.others
 obtain ⟨a0,y0,δ00,g0,i1,i2,i3,i4,i5⟩:=hA.both
 refine (duo_ind lx_wf lx_wf hp.pos (Ph Γ D P k n c.w) (sit_ph hp) (main_ph hp) (work_ph hp) (rest_ph hp) (9,r) y0 c q (.a i1 i2 (fun u hu=>hu) i3 i4 i5 hz) hq).mono ?_
 rintro c' ⟨⟨a,b,q',h1,h2,h3,h4,h5,h6,h7⟩,q2,h8⟩
 refine ⟨a,h4,⟨h1,⟨fun j=>if j=n then q' else q2 j,fun j x hj hx=>?_,h8.above⟩,h6⟩,h3,h5⟩
 by_cases hjn:j=n
 ·subst hjn
  rw[h2]at hx
  cases hx
  rw[if_pos rfl,← hp.prog]
  exact h7
 ·rw[if_neg hjn]
  exact h8.old j x hj hjn hx
end
end Go.Proofs.YtdianedehhecoaaGreatDoor.Co
/- The go statement: goroutine 0 makes a worker, and comes to wait for it. -/
namespace Go.Proofs.YtdianedehhecoaaGreatDoor.Co
variable [Loops]
open Go.Conc (G crowd Leavers Knows Deaf QuitsD crowd_pick runT_crowd_go runT_crowd_spawn woken_quitsD woken_run awake_of Deaf_own Deaf_other woken awake)
open Go.ConcN (sumTo upd sumTo_upd upd_ne upd_same)
section
variable {Γ D:Nat→Prop} {P:Two} {k:Wk} {V:World→Prop}
theorem main_picked {δ:Nat}{a:Goroutine}(ha:a.status=.running){Y:Conf→Prop}:∀ c:Conf,MainD Γ P δ a c →
    (∀ c1 d sl,MainD Γ P δ a c1→(∃ d0,c1.w=c.w.at d0)→stepT P.g c1.m=runT P.g (crowd c1.gs (c1.w.at d) sl) 0→Leads P.g c1 Y)→Leads P.g c Y:=by
  have key:∀ M:Nat,∀ c0 c:Conf,(∃ d0,c.w=c0.w.at d0)→c.gs[0]? = some a→(∃ q,Leavers P.g c.t c.gs q∧sumTo c.gs.size q≤M)→PastD Γ δ c.t →
      (∀ c1 d sl,MainD Γ P δ a c1→(∃ d0,c1.w=c0.w.at d0)→stepT P.g c1.m=runT P.g (crowd c1.gs (c1.w.at d) sl) 0→Leads P.g c1 Y)→Leads P.g c Y:=by
    intro M
    induction M with
    | zero=>?_
    | succ M ih=>?_
    all_goals
      intro c0 c hw h0 hq hP h
      obtain ⟨q,hL,hM⟩:=hq
      have haw:∀ g∈c.gs,awake g:=by
        intro g hg
        obtain ⟨i,hi,rfl⟩:=Array.mem_iff_getElem.1 hg
        rcases Nat.eq_zero_or_pos i with rfl|hpos
        · have:c.gs[0]=a:=by simpa [Array.getElem?_eq_getElem hi] using h0
          rw[this];exact awake_of (.inl ha)
        · exact awake_of ((hL.old i _ hpos (Array.getElem?_eq_getElem hi)).status.elim .inl fun x=>.inr (.inr x))
      obtain ⟨i,g,d,sl',hi,hgr,hst⟩:=crowd_pick (P:=P.g) (w:=c.w) (sl:=c.sl) haw ⟨0,_,h0,ha⟩
      rcases Nat.eq_zero_or_pos i with rfl|hpos
      · exact h c d sl' ⟨h0,⟨q,hL⟩,hP⟩ hw hst
      · have hqq:=hL.old i g hpos hi
        have hi0:(i == 0)=false:=by simp;omega
        have hlt:i<c.gs.size:=(Array.getElem?_eq_some_iff.1 hi).1
        cases hqi:q i with
        | zero=>rw[hqi]at hqq;rw[hqq.1]at hgr;cases hgr
        | succ j0 =>
          rw[hqi]at hqq
          rcases hqq with ⟨hff,_⟩|⟨_,g',es,hm,hstp,hq'⟩
          · rw[hff]at hgr;cases hgr
          have hrunT:=runT_crowd_go (P:=P.g) (sl:=sl') (i:=i) hi (by rw[hi0];exact hstp (c.w.at d))
          have hsz:((c.gs.map (woken P.g g g' (c.w.at d))).setIfInBounds i g').size=c.gs.size:=by simp
          have hsum:sumTo c.gs.size (upd q i j0)+(j0+1)=sumTo c.gs.size q+j0:=by
            have:=sumTo_upd q j0 id hlt
            simpa [hqi] using this
          first
            | (exfalso;omega)
            | (refine Leads.step (c1:=⟨(c.gs.map (woken P.g g g' (c.w.at d))).setIfInBounds i g',c.w.at d,sl',_⟩) (hst.trans hrunT) rfl ?_
               refine ih c0 ⟨_,c.w.at d,sl',_⟩ (by obtain ⟨d0,e⟩:=hw;exact ⟨d,by rw[e];rfl⟩) ?_ ⟨upd q i j0,⟨fun j x hj hx=>?_,fun j hj=>?_⟩,?_⟩ (hP.mute (by omega) hm) h
               · have hne:i≠0:=by omega
                 dsimp only
                 rw[Array.getElem?_setIfInBounds_ne hne,Array.getElem?_map,h0]
                 simp[woken_run ha]
               · by_cases hji:i=j
                 · subst hji
                   rw[Array.getElem?_setIfInBounds_self_of_lt (by simpa using hlt)]at hx
                   obtain rfl:=Option.some.inj hx
                   rw[upd_same,Deaf_own]
                   exact hq'
                 · rw[Array.getElem?_setIfInBounds_ne hji,Array.getElem?_map]at hx
                   obtain ⟨y,hy,rfl⟩:=Option.map_eq_some_iff.1 hx
                   have hqj:=hL.old j y hj hy
                   rw[woken_quitsD hqj,upd_ne q j0 (Ne.symm hji),Deaf_other c.t hji _ (fun op hop=>by obtain ⟨e,_,rfl⟩:=Go.Conc.mem_ofEvents hop;rfl)]
                   exact hqj
               · rw[Deaf_other c.t (g':=i) (by simp at hj;omega) _ (fun op hop=>by obtain ⟨e,_,rfl⟩:=Go.Conc.mem_ofEvents hop;rfl)]
                 exact hL.above j (by simpa using hj)
               · rw[hsz];omega)
  intro c hM h
  obtain ⟨q,hL⟩:=hM.leave
  exact key (sumTo c.gs.size q) c c ⟨c.w.drawn,rfl⟩ hM.zero ⟨q,hL,Nat.le_refl _⟩ hM.past h
theorem Deaf_two {t:Trace}{x y:MemOp}{n:Nat}(hxa:x.act=.go n)(hya:y.act=.start)(j:Nat):Deaf (t++#[x,y]) j=Deaf t j:=by
 rw[Go.Conc.Deaf_append t j [x,y]]
 simp[Go.Conc.deafStep,hxa,hya]
theorem fork_leads {a a' child:Goroutine}{r:Nat}{c:Conf}(hst:a.status=.running)(hch:child.status=.running)(hA:MainD Γ P 0 a c)(hprog:k.p=P.g)(hG:∀ j,Γ j→D j)
  (hsp:∀ d,stepG P.g true a (c.w.at d)=.spawn a' child (c.w.at d) #[])(hk:k.at c.w KK 0)(hV:∀ d,V (c.w.at d))(hm:MTo k (Ld k) r 0 a'){Y:Conf→Prop}
  (Γ':Nat→Prop) (hY:∀ n c',0<n→(∃ d,c'.w=c.w.at d)→WAt Γ' D P k n V 0 child c'→Leads P.g c' Y):Leads P.g c Y:=by
 refine main_picked hst c hA fun c1 d sl hM ⟨d0,hw⟩ hstep=>?_
 obtain ⟨q,hL⟩:=hM.leave
 have hlt:0<c1.gs.size:=(Array.getElem?_eq_some_iff.1 hM.zero).1
 have hsp':=hsp d
 have hww:c1.w.at d=c.w.at d:=by rw[hw];rfl
 have hrunT:=runT_crowd_spawn (P:=P.g) (sl:=sl) (w:=c1.w.at d) (i:=0) hM.zero (by rw[hww];exact hsp')
 have hops:((MemOp.ofEvents 0 a.frame.fn a.frame.place #[]).push { g:=0,fn:=a.frame.fn,pos:=a.frame.place,act:=.go c1.gs.size } |>.push { g:=c1.gs.size,fn:=child.frame.fn,pos:=a.frame.place,act:=.start })=#[{ g:=0,fn:=a.frame.fn,pos:=a.frame.place,act:=.go c1.gs.size },{ g:=c1.gs.size,fn:=child.frame.fn,pos:=a.frame.place,act:=.start }]:=by
  simp[Go.Conc.ofEvents_eq]
 rw[hops]at hrunT
 refine Leads.step (c1:=⟨(c1.gs.setIfInBounds 0 a').push child,c.w.at d,sl,_⟩) (hstep.trans hrunT) rfl ?_
 refine hY c1.gs.size _ hlt ⟨d,rfl⟩ ⟨⟨a',(4,r),0,false,?_,?_,.ld hm,hk,PW.fork hM.past (Nat.ne_of_gt hlt) (hL.above _ (Nat.le_refl _)) hG rfl rfl rfl rfl⟩,⟨q,fun j x hj hjn hx=>?_,fun j hj=>?_⟩,hV d⟩
 ·show ((c1.gs.setIfInBounds 0 a').push child)[0]? = some a'
  rw[Array.getElem?_push]
  simp[hlt,Nat.ne_of_lt hlt]
 ·show ((c1.gs.setIfInBounds 0 a').push child)[c1.gs.size]? = some child
  rw[Array.getElem?_push]
  simp
 ·have hx:((c1.gs.setIfInBounds 0 a').push child)[j]? = some x:=hx
  rw[Array.getElem?_push]at hx
  simp only[Array.size_setIfInBounds]at hx
  rw[if_neg hjn,Array.getElem?_setIfInBounds_ne (by omega)]at hx
  show QuitsD P.g (q j) (Deaf (c1.t++_) j) x
  rw[Deaf_two rfl rfl]
  exact hL.old j x hj hx
 ·have hj:((c1.gs.setIfInBounds 0 a').push child).size≤j:=hj
  simp only[Array.size_push,Array.size_setIfInBounds]at hj
  show Deaf (c1.t++_) j=0
  rw[Deaf_two rfl rfl]
  exact hL.above j (by omega)
end
end Go.Proofs.YtdianedehhecoaaGreatDoor.Co
/- Steps by reckoning: a stretch that is the same in every world; an operation that calls a function without a body. -/
namespace Go.Proofs.YtdianedehhecoaaGreatDoor.Co
variable [Loops]
open Go.Conc (G QuitsD stepG_entry stepG_entry_blocked stepG_value listed semEvents)
def okL (l:List (Goroutine × Array Event)):Bool:=l.all fun x=>(match x.1.status with|.running=>true|_=>false) && x.2.all Event.mute
def deafL (δ:Nat)(l:List (Goroutine × Array Event)):Nat:=l.foldl (fun d x=>Go.deafBehind d x.2) δ
theorem qto_quiet {p:Program}{m:Bool}{U:World→Prop}{X:Nat→Goroutine→Prop}{r:Nat}:∀ (l:List (Goroutine × Array Event))(g:Goroutine) (δ:Nat),Quiet p m g l→g.status=.running→okL l=true→QTo p m U X r (deafL δ l) (lastG g l)→QTo p m U X (r+l.length) δ g:=by
 intro l
 induction l with
 | nil=>intro g δ _ _ _ h;exact h
 | cons x l ih =>
  obtain ⟨g',es⟩:=x
  intro g δ hq hr hok h
  simp only[okL,List.all_cons,Bool.and_eq_true]at hok
  obtain ⟨⟨h1,h2⟩,h3⟩:=hok
  have hr':g'.status=.running:=by
   revert h1
   cases g'.status<;>simp
  refine QTo.step (r:=r+l.length) hr (fun e he=>?_) (fun w _=>hq.1 w) (ih g' _ hq.2 hr' h3 h)
  have:=Array.all_eq_true'.1 h2
  exact this e he
def callOf (g:Goroutine):Option (FuncId × Array Value) :=
 match g.status,g.dying,g.offers,g.frame.mode,g.frame.roundOf,g.frame.todo with
 | .running,none,none,.run,none,.inRegion ops (i :: _) :: _ =>
  if g.frame.kind == .early then none else
  match ops[i]? with
  | none=>none
  | some o =>
   match o.guard,o.op with
   | none,.call { callee:=.value (.func f),args:=xs,argTypes:=_ }=>some (f,xs.map g.frame.eval)
   | _,_=>none
 | _,_,_,_,_,_=>none
def fin (g:Goroutine)(v:Value):Goroutine:={ g with frame:=g.frame.finish v }
theorem callOf_form {g:Goroutine}{f:FuncId}{vs:Array Value}(h:callOf g=some (f,vs)):∃ (b:Frame)(a:Act)(ops:Array Oper)(i:Nat)(rest:List Nat)(k:List Item)(cs:List Frame)(o:Oper)(xs:Array Operand)(ats:Array TypeId),
  g=G (b.at a (.inRegion ops (i :: rest) :: k)) cs∧ops[i]? = some o∧o.guard=none∧b.kind≠.early∧o.op=.call { callee:=.value (.func f),args:=xs,argTypes:=ats }∧xs.map a.eval=vs∧∀ v,fin g v=G (b.at (a.put o.dst v) (.inRegion ops rest :: k)) cs:=by
 obtain ⟨⟨fnn,tmps,todo,defers,mode,kind,ro⟩,cs,st,dy,off⟩:=g
 unfold callOf at h
 split at h
 ·rename_i ops i rest k e1 e2 e3 e4 e5 e6
  simp only at e1 e2 e3 e4 e5 e6
  subst e1 e2 e3 e4 e5 e6
  split at h
  ·cases h
  rename_i hearly
  split at h
  ·cases h
  rename_i o hop
  split at h
  ·rename_i fx xs ats hgd hcall
   simp only[Option.some.injEq,Prod.mk.injEq]at h
   obtain ⟨rfl,rfl⟩:=h
   refine ⟨{ (default:Frame) with fn:=fnn,kind:=kind },⟨tmps,defers⟩,ops,i,rest,k,cs,o,xs,ats,rfl,hop,hgd,fun e=>hearly (by simp only at e;rw[e];rfl),hcall,?_,fun v=>?_⟩
   ·congr 1
   ·have e:=Frame.finish_at { (default:Frame) with fn:=fnn,kind:=kind } ⟨tmps,defers⟩ ops i rest k v
    rw[hop]at e
    show ({ G (Frame.at { (default:Frame) with fn:=fnn,kind:=kind } ⟨tmps,defers⟩ (.inRegion ops (i :: rest) :: k)) cs with frame:=(Frame.at { (default:Frame) with fn:=fnn,kind:=kind } ⟨tmps,defers⟩ (.inRegion ops (i :: rest) :: k)).finish v }:Goroutine)=_
    rw[e]
    rfl
  ·cases h
 ·cases h
structure Ext (p:Program)(f:FuncId)(e:Array Value→Sem Value):Prop where
  ex : ∃ fn, p.funcs[f]? = some fn ∧ (fn.name == "runtime.NumGoroutine") = false ∧ fn.body.isNone = true ∧ Extern.findNext fn = none ∧ Extern.find fn = some e
section
variable {p:Program} {m:Bool} {g:Goroutine} {f:FuncId} {vs:Array Value} {w:World}
theorem step_ext {e:Array Value→Sem Value}(h:callOf g=some (f,vs))(hE:Ext p f e){v:Value}{w':World}{evs:Array Event}(hrun:(e vs).run p w=.ok v w')
  (hev:(e vs).events p w #[⟨.mark (.extern f),false,true⟩]=#[⟨.mark (.extern f),false,true⟩]++evs)(hs:∀ x∈evs,x.sync=true∧∀ g,x.loc≠.mark (.extern g)):stepG p m g w=.go (fin g v) w' evs:=by
 obtain ⟨b,a,ops,i,rest,k,cs,o,xs,ats,hg,ho,hgd,hk,hop,hvs,hfin⟩:=callOf_form h
 obtain ⟨fn,h1,h2,h3,h4,h5⟩:=hE.ex
 rw[hfin v,hg]
 exact stepG_entry ho (by unfold Region.wanted;rw[hgd]) hk hop h1 h2 h3 h4 h5 (by rw[hvs];exact hrun) (by rw[hvs];exact hev) hs
theorem step_wait {e:Array Value→Sem Value}(h:callOf g=some (f,vs))(hE:Ext p f e){w':World}(hrun:(e vs).run p w=.halt .blocked w'):stepG p m g w=.go { g with status:=.blocked } w' #[]:=by
 obtain ⟨b,a,ops,i,rest,k,cs,o,xs,ats,hg,ho,hgd,hk,hop,hvs,hfin⟩:=callOf_form h
 obtain ⟨fn,h1,h2,h3,h4,h5⟩:=hE.ex
 rw[hg]
 exact stepG_entry_blocked ho (by unfold Region.wanted;rw[hgd]) hop h1 h2 h3 h4 h5 (by rw[hvs];exact hrun)
theorem run_load_entry {k:IntKind}{ad:Addr}{x:Int}(hc:w.cell? ad=some (.int k x)):(Extern.Atomic.loadT (.int k) #[.pointer (some ad)]).run p w=.ok (.int k x) w:=by
 change Sem.run p (do Extern.Atomic.read (.int k) (← asAddr (.pointer (some ad)))) w=_
 simp[Extern.Atomic.read,asAddr,hc]
theorem events_load_entry {k:IntKind}{ad:Addr}{x:Int}(hc:w.cell? ad=some (.int k x))(es:Array Event):(Extern.Atomic.loadT (.int k) #[.pointer (some ad)]).events p w es=es.push ⟨.cell ad,false,true⟩:=by
 change Sem.events p (do Extern.Atomic.read (.int k) (← asAddr (.pointer (some ad)))) w _=_
 simp[Extern.Atomic.read,asAddr,hc,events_load]
theorem step_load {k:IntKind}{ad:Addr}{x:Int}(h:callOf g=some (f,#[.pointer (some ad)]))(hE:Ext p f (Extern.Atomic.loadT (.int k)))(hc:w.cell? ad=some (.int k x)):stepG p m g w=.go (fin g (.int k x)) w #[rdE ad] :=
 step_ext h hE (run_load_entry hc) (events_load_entry hc _) (Go.Conc.sync_r ad)
theorem step_store {k:IntKind}{ad:Addr}{x:Int}{u:Value}(h:callOf g=some (f,#[.pointer (some ad),.int k x]))(hE:Ext p f Extern.Atomic.storeT)(hc:w.cell? ad=some u)(hz:w.frozen? ad=false):stepG p m g w=.go (fin g (.tuple #[])) (w.setCell ad (.int k x)) #[wrE ad]:=by
 refine step_ext h hE ?_ ?_ ?_
 ·change Sem.run p (do
   store (← asAddr (.pointer (some ad))) (.int k x) .atomic
   pure Extern.Atomic.none_) w=_
  simp[asAddr,hc,hz,run_store p w ad (.int k x) .atomic rfl,Result.andThen,Extern.Atomic.none_]
 ·change Sem.events p (do
   store (← asAddr (.pointer (some ad))) (.int k x) .atomic
   pure Extern.Atomic.none_) w _=_
  simp[asAddr,hc,hz,events_store p w _ ad (.int k x) .atomic rfl,wrE]
 ·intro y hy
  simp at hy
  subst hy
  exact ⟨rfl,fun g h=>by cases h⟩
theorem step_add {k:IntKind}{ad:Addr}{x d:Int}(h:callOf g=some (f,#[.pointer (some ad),.int k d]))(hE:Ext p f (Extern.Atomic.update (Op.intArith .add) k true))(hc:w.cell? ad=some (.int k x))(hz:w.frozen? ad=false):stepG p m g w=.go (fin g (.int k (k.wrap (x+d)))) (w.setCell ad (.int k (k.wrap (x+d)))) #[rdE ad,wrE ad] :=
 step_ext h hE (Go.Conc.run_add_entry hc hz) (by rw[Go.Conc.events_add_entry hc hz];rfl) (Go.Conc.sync_rw ad)
theorem step_hit {k:IntKind}{ad:Addr}{x n:Int}(h:callOf g=some (f,#[.pointer (some ad),.int k x,.int k n]))(hE:Ext p f (Extern.Atomic.casT (.int k)))(hc:w.cell? ad=some (.int k x))(hz:w.frozen? ad=false):stepG p m g w=.go (fin g (.bool true)) (w.setCell ad (.int k n)) #[rdE ad,wrE ad] :=
 step_ext h hE (by rw[Go.Conc.casT_eq];exact Go.Conc.run_cas_hit_entry hc hz) (by rw[Go.Conc.casT_eq,Go.Conc.events_cas_hit_entry hc hz];rfl) (Go.Conc.sync_rw ad)
theorem step_miss {k:IntKind}{ad:Addr}{x old n:Int}(h:callOf g=some (f,#[.pointer (some ad),.int k old,.int k n]))(hE:Ext p f (Extern.Atomic.casT (.int k)))(hc:w.cell? ad=some (.int k x))(hz:w.frozen? ad=false)(hne:¬ x=old):stepG p m g w=.go (fin g (.bool false)) w #[rdE ad] :=
 step_ext h hE (by rw[Go.Conc.casT_eq];exact Go.Conc.run_cas_miss_entry hc hz hne) (by rw[Go.Conc.casT_eq,Go.Conc.events_cas_miss_entry hc hz hne];rfl) (Go.Conc.sync_r ad)
theorem step_markAt {mk:Addr→Mark}(hm:∀ ad g,mk ad≠.extern g){ad:Addr}(h:callOf g=some (f,#[.pointer (some ad)]))(hE:Ext p f (Extern.Race.marked mk)):stepG p m g w=.go (fin g (.tuple #[])) w #[mkE (mk ad)] :=
 step_ext h hE (by simp[Extern.Race.marked,Extern.Race.at_,Extern.Race.none_]) (by simp[Extern.Race.marked,Extern.Race.at_,mkE]) (by
  intro x hx'
  simp at hx'
  subst hx'
  exact ⟨rfl,fun g h=>hm ad g (Loc.mark.inj h)⟩)
theorem step_sem {ad:Addr}{n:Int}{vs:Array Value}(h:callOf g=some (f,vs))(hx:vs[0]? = some (.pointer (some ad)))(hE:Ext p f Extern.Sync.semacquire)(hc:w.cell? ad=some (.int .u32 n))(hn0:n≠0)(hz:w.frozen? ad=false):stepG p m g w=.go (fin g (.tuple #[])) (w.setCell ad (.int .u32 (n-1))) (semEvents ad) :=
 step_ext h hE (by simp[Extern.Sync.semacquire,Extern.Sync.count,hx,hc,hn0,hz,Extern.Sync.none_,run_store p w ad (.int .u32 (n-1)) .atomic rfl,Result.andThen])
  (by simp[Extern.Sync.semacquire,Extern.Sync.count,hx,hc,hn0,hz,semEvents,events_load,events_store p w _ ad (.int .u32 (n-1)) .atomic rfl,run_store p w ad (.int .u32 (n-1)) .atomic rfl,Result.evThen]) (Go.Conc.semEvents_sync ad)
theorem step_sem_wait {ad:Addr}{vs:Array Value}(h:callOf g=some (f,vs))(hx:vs[0]? = some (.pointer (some ad)))(hE:Ext p f Extern.Sync.semacquire)(hc:w.cell? ad=some (.int .u32 0)):stepG p m g w=.go { g with status:=.blocked } w #[] :=
 step_wait h hE (by simp[Extern.Sync.semacquire,Extern.Sync.count,hx,hc])
theorem step_semrel {ad:Addr}{n:Int}{vs:Array Value}(h:callOf g=some (f,vs))(hx:vs[0]? = some (.pointer (some ad)))(hE:Ext p f Extern.Sync.semrelease)(hc:w.cell? ad=some (.int .u32 n))(hz:w.frozen? ad=false):stepG p m g w=.go (fin g (.tuple #[])) (w.setCell ad (.int .u32 (IntKind.u32.wrap (n+1)))) (semEvents ad) :=
 step_ext h hE (by simp[Extern.Sync.semrelease,Extern.Sync.count,hx,hc,hz,Extern.Sync.none_,Op.intArith,run_store p w ad (.int .u32 (IntKind.u32.wrap (n+1))) .atomic rfl,Result.andThen])
  (by simp[Extern.Sync.semrelease,Extern.Sync.count,hx,hc,hz,semEvents,Op.intArith,events_load,events_store p w _ ad (.int .u32 (IntKind.u32.wrap (n+1))) .atomic rfl,run_store p w ad (.int .u32 (IntKind.u32.wrap (n+1))) .atomic rfl,Result.evThen]) (Go.Conc.semEvents_sync ad)
end
end Go.Proofs.YtdianedehhecoaaGreatDoor.Co
/- Scripts: a goroutine's way, in quiet stretches and points at which it meets the world; reckoned at once. -/
namespace Go.Proofs.YtdianedehhecoaaGreatDoor.Co
variable [Loops]
open Go.Conc (G stepG_value listed)
inductive Sc where
 | q (n:Nat)
 | v (f:FuncId) (vs:Array Value) (r:Value)
 | c (src dst:TypeId) (x:Value)
 | l (t:TypeId) (x r:Value)
def operOf (g:Goroutine):Option Oper :=
 match g.status,g.dying,g.offers,g.frame.mode,g.frame.roundOf,g.frame.todo with
 | .running,none,none,.run,none,.inRegion ops (i :: _) :: _ =>
  if g.frame.kind == .early then none else
  match ops[i]? with
  | none=>none
  | some o=>match o.guard with
   | none=>some o
   | _=>none
 | _,_,_,_,_,_=>none
def convOf (g:Goroutine):Option (TypeId × TypeId × Value) :=
 match operOf g with
 | some o=>match o.op with
  | .convert s d x=>some (s,d,g.frame.eval x)
  | _=>none
 | none=>none
def loadOf (g:Goroutine):Option (TypeId × Value) :=
 match operOf g with
 | some o=>match o.op with
  | .load t x=>some (t,g.frame.eval x)
  | _=>none
 | none=>none
theorem operOf_form {g:Goroutine}{o:Oper}(h:operOf g=some o):∃ (b:Frame)(a:Act)(ops:Array Oper)(i:Nat)(rest:List Nat)(k:List Item)(cs:List Frame),
  g=G (b.at a (.inRegion ops (i :: rest) :: k)) cs∧ops[i]? = some o∧o.guard=none∧b.kind≠.early∧(∀ x,g.frame.eval x=a.eval x)∧∀ v,fin g v=G (b.at (a.put o.dst v) (.inRegion ops rest :: k)) cs:=by
 obtain ⟨⟨fnn,tmps,todo,defers,mode,kind,ro⟩,cs,st,dy,off⟩:=g
 unfold operOf at h
 split at h
 ·rename_i ops i rest k e1 e2 e3 e4 e5 e6
  simp only at e1 e2 e3 e4 e5 e6
  subst e1 e2 e3 e4 e5 e6
  split at h
  ·cases h
  rename_i hearly
  split at h
  ·cases h
  rename_i o' hop
  split at h
  ·rename_i hgd
   simp only[Option.some.injEq]at h
   subst h
   refine ⟨{ (default:Frame) with fn:=fnn,kind:=kind },⟨tmps,defers⟩,ops,i,rest,k,cs,rfl,hop,hgd,fun e=>hearly (by simp only at e;rw[e];rfl),fun x=>by cases x<;>rfl,fun v=>?_⟩
   have e:=Frame.finish_at { (default:Frame) with fn:=fnn,kind:=kind } ⟨tmps,defers⟩ ops i rest k v
   rw[hop]at e
   show ({ G (Frame.at { (default:Frame) with fn:=fnn,kind:=kind } ⟨tmps,defers⟩ (.inRegion ops (i :: rest) :: k)) cs with frame:=(Frame.at { (default:Frame) with fn:=fnn,kind:=kind } ⟨tmps,defers⟩ (.inRegion ops (i :: rest) :: k)).finish v }:Goroutine)=_
   rw[e]
   rfl
  ·cases h
 ·cases h
inductive Out where
 | bad
 | st (l:List (Goroutine × World × Array Event))
 | call (x:Option (FuncId × Array Value))
 | conv (x:Option (TypeId × TypeId × Value))
 | load (x:Option (TypeId × Value))
def last3 (g:Goroutine):List (Goroutine × World × Array Event)→Goroutine
 | []=>g
 | (g',_,_) :: l=>last3 g' l
theorem last3_map (w:World):∀ (l:List (Goroutine × Array Event))(g:Goroutine),last3 g (l.map fun x=>(x.1,w,x.2))=lastG g l
 | [],_=>rfl
 | (g',_) :: l,_=>last3_map w l g'
section
variable (p:Program) (m:Bool)
def scr:List Sc→Goroutine→World→List Out
 | [],_,_=>[]
 | .q n :: S,g,w=>match tr p m n g w with
  | some l=>.st l :: scr S (last3 g l) w
  | none=>[.bad]
 | .v _ _ r :: S,g,w=>.call (callOf g) :: scr S (fin g r) w
 | .c _ _ x :: S,g,w=>.conv (convOf g) :: scr S (fin g x) w
 | .l _ _ r :: S,g,w=>.load (loadOf g) :: scr S (fin g r) w
noncomputable def exS:List Sc→Goroutine→World→List Out
 | [],_,_=>[]
 | .q n :: S,g,w=>.st ((trL p m n g).map fun x=>(x.1,w,x.2)) :: exS S (lastG g (trL p m n g)) w
 | .v f vs r :: S,g,w=>.call (some (f,vs)) :: exS S (fin g r) w
 | .c s d x :: S,g,w=>.conv (some (s,d,x)) :: exS S (fin g x) w
 | .l t x r :: S,g,w=>.load (some (t,x)) :: exS S (fin g r) w
noncomputable def endS:List Sc→Goroutine→Goroutine
 | [],g=>g
 | .q n :: S,g=>endS S (lastG g (trL p m n g))
 | .v _ _ r :: S,g=>endS S (fin g r)
 | .c _ _ x :: S,g=>endS S (fin g x)
 | .l _ _ r :: S,g=>endS S (fin g r)
def runB (g:Goroutine):Bool:=match g.status with|.running=>true|_=>false
noncomputable def okS:List Sc→Goroutine→Bool
 | [],g=>runB g
 | .q n :: S,g=>runB g && okL (trL p m n g) && okS S (lastG g (trL p m n g))
 | .v _ _ r :: S,g=>runB g && okS S (fin g r)
 | .c _ _ x :: S,g=>runB g && okS S (fin g x)
 | .l _ _ r :: S,g=>runB g && okS S (fin g r)
noncomputable def dfS:List Sc→Goroutine→Nat→List Nat
 | [],_,_=>[]
 | .q n :: S,g,δ=>deafL δ (trL p m n g) :: dfS S (lastG g (trL p m n g)) (deafL δ (trL p m n g))
 | .v _ _ r :: S,g,δ=>δ :: dfS S (fin g r) δ
 | .c _ _ x :: S,g,δ=>δ :: dfS S (fin g x) δ
 | .l _ _ r :: S,g,δ=>δ :: dfS S (fin g r) δ
def Way:List Sc→Goroutine→Prop
 | [],g=>g.status=.running
 | .q n :: S,g=>g.status=.running∧Quiet p m g (trL p m n g)∧okL (trL p m n g)=true∧Way S (lastG g (trL p m n g))
 | .v f vs r :: S,g=>g.status=.running∧callOf g=some (f,vs)∧Way S (fin g r)
 | .c s d x :: S,g=>g.status=.running∧convOf g=some (s,d,x)∧Way S (fin g x)
 | .l t x r :: S,g=>g.status=.running∧loadOf g=some (t,x)∧Way S (fin g r)
end
variable {p:Program} {m:Bool}
theorem runB_run {g:Goroutine}(h:runB g=true):g.status=.running:=by
 unfold runB at h
 split at h
 ·assumption
 ·cases h
theorem way_of:∀ (S:List Sc)(g:Goroutine),(∀ w,scr p m S g w=exS p m S g w)→okS p m S g=true→Way p m S g:=by
 intro S
 induction S with
 | nil=>intro g _ h;exact runB_run h
 | cons s S ih =>
  intro g h hok
  cases s with
  | q n =>
   simp only[okS,Bool.and_eq_true]at hok
   have key:∀ w,tr p m n g w=some ((trL p m n g).map fun x=>(x.1,w,x.2))∧scr p m S (lastG g (trL p m n g)) w=exS p m S (lastG g (trL p m n g)) w:=fun w=>by
    have:=h w
    simp only[scr,exS]at this
    split at this
    ·rename_i l hl
     simp only[List.cons.injEq,Out.st.injEq]at this
     obtain ⟨rfl,h2⟩:=this
     rw[last3_map]at h2
     exact ⟨hl,h2⟩
    ·simp at this
   exact ⟨runB_run hok.1.1,quiet_of_tr n g _ fun w=>(key w).1,hok.1.2,ih _ (fun w=>(key w).2) hok.2⟩
  | v f vs r =>
   simp only[okS,Bool.and_eq_true]at hok
   have key:=fun w=>by have:=h w;simp only[scr,exS,List.cons.injEq,Out.call.injEq]at this;exact this
   exact ⟨runB_run hok.1,(key default).1,ih _ (fun w=>(key w).2) hok.2⟩
  | c s d x =>
   simp only[okS,Bool.and_eq_true]at hok
   have key:=fun w=>by have:=h w;simp only[scr,exS,List.cons.injEq,Out.conv.injEq]at this;exact this
   exact ⟨runB_run hok.1,(key default).1,ih _ (fun w=>(key w).2) hok.2⟩
  | l t x r =>
   simp only[okS,Bool.and_eq_true]at hok
   have key:=fun w=>by have:=h w;simp only[scr,exS,List.cons.injEq,Out.load.injEq]at this;exact this
   exact ⟨runB_run hok.1,(key default).1,ih _ (fun w=>(key w).2) hok.2⟩
section
variable {g:Goroutine} {w:World}
theorem step_conv {src dst t:TypeId}{ad:Addr}{v:Value}(h:convOf g=some (src,dst,.pointer (some ad)))(hs:p.underlying src=some (.pointer t))(hd:p.underlying dst=some .unsafePointer)(hsz:(p.info? t).map (fun i=>decide (i.size=0))=some false)(hc:w.cell? ad=some v):stepG p m g w=.go (fin g (.pointer (some ad))) w #[]:=by
 unfold convOf at h
 split at h
 ·rename_i o ho
  split at h
  ·rename_i s d x hop
   simp only[Option.some.injEq,Prod.mk.injEq]at h
   obtain ⟨rfl,rfl,hx⟩:=h
   obtain ⟨b,a,ops,i,rest,k,cs,hg,hoi,hgd,hk,hev,hfin⟩:=operOf_form ho
   rw[hev]at hx
   have hr:(execOp a.eval o).run p w=.ok (.value (.pointer (some ad))) w:=by
    simp only[execOp,hop,hx,Sem.run_bind,run_convert_to_unsafe hs hd hsz hc,Result.andThen,Sem.run_pure]
   rw[hfin,hg,stepG_value hoi (by unfold Region.wanted;rw[hgd]) hk hr]
   have hl:listed p b.fn a o w=#[]:=by
    unfold listed
    have:(execOp a.eval o).events p w #[]=#[]:=by
     simp only[execOp,hop,hx,Sem.events_bind,run_convert_to_unsafe hs hd hsz hc,Go.Conc.events_convert_to_unsafe hs hd hsz hc,Result.evThen]
     rfl
    rw[this]
    exact Go.Conc.seen_none _ _
   rw[hl]
  ·cases h
 ·cases h
end
end Go.Proofs.YtdianedehhecoaaGreatDoor.Co