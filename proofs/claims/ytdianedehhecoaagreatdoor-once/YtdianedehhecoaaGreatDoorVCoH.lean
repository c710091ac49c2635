/- Watched: up to what is left alone. -/
import Derived.Test.YtdianedehhecoaaGreatDoorVCoG
import Derived.Test.YtdianedehhecoaaGreatDoorVOnces
set_option linter.unusedSectionVars false
set_option linter.unusedVariables false
set_option linter.unusedSimpArgs false
set_option maxRecDepth 20000
namespace Go.Proofs.YtdianedehhecoaaGreatDoor.Co
variable [Loops]
open Go.Conc (G stepG_enter run_call_body events_call_body seen_none listed)
open Go.RowKit
theorem wpOps_valw {P:Program}{ops:Array Oper}{Q:Exit→Act→World→Prop}{i:Nat}{rest:List Nat}{a:Act}{w w':World}{o:Oper}{v:Value}(ho:ops[i]? = some o)(hw:Region.wanted o (yielded ops a.tmps)=true)(hr:(execOp a.eval o).run P w=.ok (.value v) w')(h:wpOps P ops Q rest (a.put o.dst v) w'):wpOps P ops Q (i :: rest) a w:=by
 rw[wpOps_cons]
 unfold wpOp
 rw[ho]
 dsimp only
 rw[if_pos hw]
 refine .inl ?_
 unfold Oper.wp
 rw[hr]
 exact h
theorem WR.op1 {ops:Array Oper}{j d:Nat}{rest:List Nat}{o:Oper}{v:Value}{Q:Exit→Act→World→Prop}{a:Act}{w:World}(ho:ops[j]? = some o)(hw:Region.wanted o (yielded ops a.tmps)=true)(hds:o.dst=some d)(hr:∀ w,(execOp a.eval o).run PP.s w=.ok (.value v) w)
  (h:∀ w',like w' w→WR PP ops rest Q (a.put (some d) v) w'):WR PP ops (j :: rest) Q a w:=by
 refine WR.pre (pre:=[j]) (rest:=rest) (K:=fun a' w'=>a'=a.put (some d) v∧like w' w) PP_rdy (fun t d'=>?_) ?_
 ·refine wpOps_valw (v:=v) (w':=re w t d') ho hw (hr _) ?_
  rw[hds]
  exact ⟨rfl,rfl,rfl,rfl,rfl⟩
 ·rintro a' w' ⟨t,d',rfl,l⟩
  exact h w' l
theorem WR.callw {P:Two}{ops:Array Oper}{j:Nat}{rest:List Nat}{o:Oper}{f:FuncId}{fn:Func}{xs:Array Operand}{ats:Array TypeId}{Q:Exit→Act→World→Prop}{a:Act}{w:World}(ho:ops[j]? = some o)(hop:o.op=.call { callee:=.value (.func f),args:=xs,argTypes:=ats })
    (hw : Region.wanted o (yielded ops a.tmps) = true) (hfn : P.fg[f]? = some fn) (hnm : (fn.name == "runtime.NumGoroutine") = false) (hb : fn.body.isNone = false)
    (h:CB P f (xs.map a.eval) w fun v w'=>WR P ops rest Q (a.put o.dst v) w'):WR P ops (j :: rest) Q a w:=by
  rintro b k cs c ⟨Γ,hM,hg,hok⟩
  have hke:b.kind≠.early:=by
    have:=hok.kind
    intro e
    rcases this with h|h<;>(simp only[Frame.at,e]at h;cases h)
  have hst:∀ W,stepG P.g true (G (b.at a (.inRegion ops (j :: rest) :: k)) cs) W=.go (G (Frame.enter P.g f (xs.map a.eval) .normal) (b.at a (.inRegion ops (j :: rest) :: k) :: cs)) W:=fun W=>by
    rw[stepG_enter ho hw hke (run_call_body hop (show P.g.funcs[f]? = some fn from hfn) hnm hb)]
    have:listed P.g b.fn a o W=#[]:=by unfold listed;rw[events_call_body hop (show P.g.funcs[f]? = some fn from hfn) hnm hb];exact seen_none _ _
    rw[this]
  refine ((mainTeam Γ P).one (X:=fun W=>Gh Γ w W) rfl c hM (fun b hb=>⟨b,#[],hst _,fun e he=>by simp at he,fun _ _=>rfl,hb w hg⟩)).trans fun c1 ⟨m1,g1⟩=>?_
  refine (h _ cs c1 hok ⟨Γ,m1,g1⟩).trans ?_
  rintro c2 ⟨v,w',hwr,hs⟩
  rw[Frame.finish_at,ho]at hs
  exact hwr b k cs c2 hs
structure HasS (n:Nat)(l:List (Nat × Value))(a:Act):Prop where
 size:a.tmps.size=n
 defers:a.defers=[]
 at_:∀ p,p∈l→a.tmps.getD p.1 undef=p.2
theorem HasS.get {n:Nat}{l:List (Nat × Value)}{a:Act}(h:HasS n l a)(s:Nat)(v:Value)(hm:(s,v)∈l):a.tmps.getD s undef=v:=h.at_ (s,v) hm
theorem HasS.put {n:Nat}{l:List (Nat × Value)}{a:Act}(h:HasS n l a)(d:Nat)(v:Value)(hd:d<n):HasS n ((d,v) :: l.filter fun p=>p.1 != d) (a.put (some d) v):=by
 refine ⟨by rw[act_size];exact h.size,h.defers,fun p hp=>?_⟩
 rw[put_getD _ _ _ _ (by rw[h.size];exact hd)]
 rcases List.mem_cons.1 hp with rfl|hp
 ·rw[if_pos rfl]
 ·obtain ⟨h1,h2⟩:=List.mem_filter.1 hp
  have:p.1≠d:=by simpa using h2
  rw[if_neg this]
  exact h.at_ p h1
theorem yielded_of {ops:Array Oper}{tm:Array Value}{j d:Nat}{b:Bool}(h1:(ops[j]?).bind (·.dst)=some d)(hd:d<tm.size)(h2:tm.getD d undef=.bool b):yielded ops tm j=some b:=by
 unfold yielded
 rw[h1]
 have:tm[d]? = some (.bool b):=by
  rw[Array.getElem?_eq_getElem hd,← h2]
  simp[Array.getD,hd]
 simp[this]
theorem wanted_none {o:Oper}{y:Nat→Option Bool}(h:o.guard=none):Region.wanted o y=true:=by unfold Region.wanted;rw [h]
theorem wanted_some {o:Oper}{y:Nat→Option Bool}{j:Nat}(h:o.guard=some (j,true))(hy:y j=some true):Region.wanted o y=true:=by
 unfold Region.wanted
 rw[h]
 simp[hy]
end Go.Proofs.YtdianedehhecoaaGreatDoor.Co
/- Watched, beside leavers. -/
namespace Go.Proofs.YtdianedehhecoaaGreatDoor.Co
variable [Loops]
open Go.Conc (G)
open Go.RowKit
structure S7 (sd pl bh sl:Value)(a:Act):Prop where
 size:a.tmps.size=109
 defers:a.defers=[]
 s0:a.tmps.getD 0 undef=sd
 s1:a.tmps.getD 1 undef=pl
 s2:a.tmps.getD 2 undef=bh
 s3:a.tmps.getD 3 undef=sl
section
variable {w:World} {a:Act} {seed players behind:Int} {sl:Value} {pb:Nat}
end
theorem run_move {P:Program}{o:Oper}{a:Act}{s:Nat}{v:Value}(hop:o.op=.move (.tmp s))(hs:a.tmps.getD s undef=v)(w:World):(execOp a.eval o).run P w=.ok (.value v) w:=by
 unfold execOp
 rw[hop]
 show Result.ok (Next.value (a.eval (.tmp s))) w=_
 rw[show a.eval (.tmp s)=v from hs]
theorem run_assign {P:Program}{o:Oper}{a:Act}{s:Nat}{v:Value}(hop:o.op=.assign (.tmp s))(hs:a.tmps.getD s undef=v)(w:World):(execOp a.eval o).run P w=.ok (.value v) w:=by
 unfold execOp
 rw[hop]
 show Result.ok (Next.value (a.eval (.tmp s))) w=_
 rw[show a.eval (.tmp s)=v from hs]
theorem run_pick {P:Program}{o:Oper}{a:Act}{s r:Nat}{v:Value}{y:Operand}(hop:o.op=.pick (.tmp s) (.tmp r) y)(hs:a.tmps.getD s undef=.bool true)(hr:a.tmps.getD r undef=v)(w:World):(execOp a.eval o).run P w=.ok (.value v) w:=by
 unfold execOp
 rw[hop]
 simp only[show a.eval (.tmp s)=.bool true from hs,show a.eval (.tmp r)=v from hr]
 rfl
end Go.Proofs.YtdianedehhecoaaGreatDoor.Co
/- Watched, beside leavers: the whole. -/
namespace Go.Proofs.YtdianedehhecoaaGreatDoor.Co
variable [Loops]
open Go.Conc (G)
open Go.RowKit
section
variable {W w w':World} {N pb:Nat} {sd:Int} {P:Nat}
theorem Stays.self (D:Nat→Prop)(w:World):Stays D w w:=⟨rfl,rfl,Nat.le_refl _,fun _ _ _=>rfl⟩
theorem Stays.low {a b c:World}(h:Stays (fun k=>N≤k) a b)(g:Stays (fun k=>N≤k) b c):Stays (fun k=>N≤k) a c :=
 ⟨g.os.trans h.os,g.output.trans h.output,Nat.le_trans h.size g.size,fun j hj hn=>(g.block j (Nat.lt_of_lt_of_le hj h.size) hn).trans (h.block j hj hn)⟩
theorem PlaysC.self (h:PlaysC W N pb sd P w):PlaysC w N pb sd P w:=⟨Stays.self _ _,h.2⟩
theorem PlaysC.trans (h:PlaysC W N pb sd P w)(g:PlaysC w N pb sd P w'):PlaysC W N pb sd P w':=⟨h.1.low g.1,g.2⟩
theorem f15_same:PP.fs[15]? = PP.fg[15]?:=by kernel_rfl
theorem f15_fn:PP.fg[15]? = some Tryz.f15:=by kernel_rfl
def AllC (W:World)(N pb:Nat)(sd:Int)(P:Nat)(w':World):Prop:=Stays (fun k=>N≤k) W w'∧∃ Q T,PA w' (fun k=>N≤k) pb sd P T Q∧∀ (j:Nat)(u:Wt),Q.M.ws[j]? = some u→u.ts=[]
theorem AllC.like (h:AllC W N pb sd P w)(l:like w' w):AllC W N pb sd P w':=by
 obtain ⟨h1,Q,T,h2,h3⟩:=h
 exact ⟨⟨l.2.1.trans h1.os,l.2.2.trans h1.output,by rw[l.1];exact h1.size,fun j hj hn=>by rw[l.1];exact h1.block j hj hn⟩,Q,T,PA.on h2 fun k _ _=>by rw[l.1],h3⟩
theorem all_cb (h:PlaysC W N pb sd P w)(hN:N≤W.heap.size):CB PP 15 #[pW pb] w fun v w'=>v=.bool true∧AllC W N pb sd P w':=by
 obtain ⟨hst,Q,T,hP⟩:=h
 have hz:=hst.size
 refine (CB.of_calls PP_rdy (R:=fun t d e w'=>e=.returned (.bool true)∧AllAt (re w t d) w' (fun k=>N≤k) pb sd P T Q.M.ws.length Q.M.ws.length) f15_same (fun t d e w' hr=>⟨_,hr.1⟩) fun t d=>PA.all (PA.on hP (w':=re w t d) fun _ _ _=>rfl)).mono ?_
 rintro v w' ⟨t,d,t',d',he,Q',hP',hn,ha,hk⟩
 injection he with he
 refine ⟨he,hst.low ⟨hk.os,hk.output,hk.size,hk.block⟩,Q',T,PA.on (PA.own hP' fun k hk _=>hk.elim id fun x=>?_) fun _ _ _=>rfl,fun j u hu=>ha j u (by rw[← hn];exact (List.getElem?_eq_some_iff.1 hu).1) hu⟩
 have x:w.heap.size≤k:=x
 omega
end
section
variable {W:World} {a0:Act} {seed players behind:Int} {sa:Option Addr} {cap:Nat} {L:List Int}
end
end Go.Proofs.YtdianedehhecoaaGreatDoor.Co
/- Watched: one good run from every start. -/
namespace Go.Proofs.YtdianedehhecoaaGreatDoor.Co
open Go.Conc (G solo)
open Go.RowKit
theorem calmedCell {W:World}{a:Addr}{v:Value}(h:W.cell? a=some v):(calmed W).cell? a=some v:=by
 have e:(calmed W).heap[a.block]? = (W.heap[a.block]?).map maskO:=by simp[calmed]
 unfold World.cell? at h ⊢
 rw[e]
 cases ho:W.heap[a.block]? with
 | none=>rw[ho]at h;exact h
 | some o =>
  rw[ho]at h
  cases o<;>first|exact h|(simp at h;done)
theorem calmedSize (W:World):(calmed W).heap.size=W.heap.size:=by simp [calmed]
theorem scr_calmed {W:World}{v:Value}{L:List Int}(h:NArg W v L):Scr (calmed W) (calmed W).heap.size v L:=by
 obtain ⟨a,cap,e,hk⟩:=h
 refine ⟨a,cap,e,fun k hkl=>?_⟩
 obtain ⟨g,o,h1,h2,h3,h4⟩:=hk k hkl
 exact ⟨g,o,h1,by rw[calmedSize];exact h2,calmedCell h3,h4⟩
end Go.Proofs.YtdianedehhecoaaGreatDoor.Co
/- Once, beside leavers. -/
namespace Go.Proofs.YtdianedehhecoaaGreatDoor.Co
variable [Loops]
open Go.Conc (G)
open Go.RowKit
noncomputable def ops6a:Array Oper:=opsOf (sq1 (sq2 (sq2 (sq2 cOnc))))
noncomputable def ops6b:Array Oper:=opsOf (sq1 (sq2 (sq2 (sq2 (sq2 cOnc)))))
theorem c6_eq:cOnc=.seq (sq1 cOnc) (.seq (sq1 (sq2 cOnc)) (.seq (sq1 (sq2 (sq2 cOnc))) (.seq (.region 4 ops6a false) (.seq (.region 5 ops6b false) (after 5 cOnc))))):=by kernel_rfl
theorem rng6a:List.range ops6a.size=[0,1,2,3]:=by kernel_rfl
theorem rng6b:List.range ops6b.size=[0,1,2,3,4,5]:=by kernel_rfl
structure S6 (sd pl bh sl:Value)(a:Act):Prop where
 size:a.tmps.size=172
 defers:a.defers=[]
 s0:a.tmps.getD 0 undef=sd
 s1:a.tmps.getD 1 undef=pl
 s2:a.tmps.getD 2 undef=bh
 s3:a.tmps.getD 3 undef=sl
theorem s6 (sd pl bh sl:Value):S6 sd pl bh sl { tmps:=#[sd,pl,bh,sl]++Array.replicate (Tryz.f6.ntmps-(#[sd,pl,bh,sl]:Array Value).size) undef,defers:=[] }:=⟨by kernel_rfl,rfl,by kernel_rfl,by kernel_rfl,by kernel_rfl,by kernel_rfl⟩
section
variable {w:World} {a:Act} {seed players behind:Int} {sl:Value} {pb:Nat}
theorem w6_0 (h:S6 (.int .i64 seed) (.int .i64 players) (.int .i64 behind) sl a)(t:Nat→Question→Nat)(d:Nat):(sq1 cOnc).wp PP.s (fun e a' w'=>e=.normal∧S6 (.int .i64 seed) (.int .i64 players) (.int .i64 behind) sl a'∧like w' w) a (re w t d):=by
 obtain ⟨tm,df⟩:=a
 obtain rfl:df=[]:=h.defers
 have e:=tmps_lit (n:=172) (tm:=tm) h.size
 obtain ⟨f,hf⟩:∃ f:Nat→Value,f=fun i=>tm.getD i undef:=⟨_,rfl⟩
 have e0:f 0=.int .i64 seed:=by rw[hf];exact h.s0
 have e1:f 1=.int .i64 players:=by rw[hf];exact h.s1
 have e2:f 2=.int .i64 behind:=by rw[hf];exact h.s2
 have e3:f 3=sl:=by rw[hf];exact h.s3
 rw[← hf,lit172]at e
 subst e
 clear hf h
 show Code.wp Pz.prog (sq1 cOnc) _ _ _
 simp only[sq1,sq2,cOnc,Tryz.f6,Option.getD,e0,e1,e2,e3]
 clear e0 e1 e2 e3
 go_wp2
 exact ⟨⟨rfl,rfl,rfl,rfl,rfl,rfl⟩,rfl,rfl,rfl⟩
def K6 (W:World)(N:Nat)(sd:Int)(P:Nat)(sl:Value)(a:Act)(w':World):Prop:=∃ pb,HasS 172 [(3,sl),(9,pW pb),(10,.bool true)] a∧PlaysC W N pb sd P w'
theorem w6_1 {W:World}{N P:Nat}{sd:Int}(h:S6 (.int .i64 seed) (.int .i64 players) (.int .i64 behind) sl a)(t:Nat→Question→Nat)(d:Nat)
  (hb:Calls Pz.prog 12 #[.int .i64 seed,.int .i64 players,.int .i64 behind] (re w t d) fun e w'=>∃ pb,e=.returned (.tuple #[.pointer (some ⟨pb,0,none⟩),.bool true])∧PlaysC W N pb sd P w'):(sq1 (sq2 cOnc)).wp PP.s (fun e a' w'=>e=.normal∧K6 W N sd P sl a' w') a (re w t d):=by
 obtain ⟨tm,df⟩:=a
 obtain rfl:df=[]:=h.defers
 have e:=tmps_lit (n:=172) (tm:=tm) h.size
 obtain ⟨f,hf⟩:∃ f:Nat→Value,f=fun i=>tm.getD i undef:=⟨_,rfl⟩
 have e0:f 0=.int .i64 seed:=by rw[hf];exact h.s0
 have e1:f 1=.int .i64 players:=by rw[hf];exact h.s1
 have e2:f 2=.int .i64 behind:=by rw[hf];exact h.s2
 have e3:f 3=sl:=by rw[hf];exact h.s3
 rw[← hf,lit172]at e
 subst e
 have HB:=(show Hid _ from hb)
 clear hf h hb
 show Code.wp Pz.prog (sq1 (sq2 cOnc)) _ _ _
 simp only[sq1,sq2,cOnc,Tryz.f6,Option.getD,e0,e1,e2,e3]
 clear e0 e1 e2 e3
 go_wp2_with (go_at_call 12;refine Calls.mono HB.out ?_;rintro e w2 ⟨pb,rfl,hq⟩)
 exact ⟨pb,⟨rfl,rfl,fun p hp=>by
  simp only[List.mem_cons,List.not_mem_nil,or_false]at hp
  rcases hp with rfl|rfl|rfl<;>rfl⟩,hq⟩
theorem w6_2 (h:HasS 172 [(3,sl),(9,pW pb),(10,.bool true)] a)(t:Nat→Question→Nat)(d:Nat):(sq1 (sq2 (sq2 cOnc))).wp PP.s (fun e a' w'=>e=.normal∧HasS 172 [(3,sl),(9,pW pb)] a'∧like w' w) a (re w t d):=by
 obtain ⟨tm,df⟩:=a
 obtain rfl:df=[]:=h.defers
 have e:=tmps_lit (n:=172) (tm:=tm) h.size
 obtain ⟨f,hf⟩:∃ f:Nat→Value,f=fun i=>tm.getD i undef:=⟨_,rfl⟩
 have e3:f 3=sl:=by rw[hf];exact h.get 3 sl (by simp)
 have e9:f 9=pW pb:=by rw[hf];exact h.get 9 (pW pb) (by simp)
 have e10:f 10=.bool true:=by rw[hf];exact h.get 10 (.bool true) (by simp)
 rw[← hf,lit172]at e
 subst e
 clear hf h
 show Code.wp Pz.prog (sq1 (sq2 (sq2 cOnc))) _ _ _
 simp only[sq1,sq2,cOnc,Tryz.f6,Option.getD,e3,e9,e10]
 clear e3 e9 e10
 go_wp2
 exact ⟨⟨rfl,rfl,fun p hp=>by
  simp only[List.mem_cons,List.not_mem_nil,or_false]at hp
  rcases hp with rfl|rfl<;>rfl⟩,rfl,rfl,rfl⟩
end
theorem o6a_0:∃ o,ops6a[0]? = some o∧o.op=.move (.tmp 9)∧o.dst=some 35∧o.guard=none:=⟨(ops6a[0]?).getD default,by kernel_rfl,by kernel_rfl,by kernel_rfl,by kernel_rfl⟩
theorem o6a_1:∃ o,ops6a[1]? = some o∧o.op=.move (.tmp 3)∧o.dst=some 36∧o.guard=none:=⟨(ops6a[1]?).getD default,by kernel_rfl,by kernel_rfl,by kernel_rfl,by kernel_rfl⟩
theorem o6a_2:∃ o,ops6a[2]? = some o∧o.op=.call { callee:=.value (.func 13),args:=#[.tmp 35,.tmp 36],argTypes:=#[26,25] }∧o.dst=some 37∧o.guard=none:=⟨(ops6a[2]?).getD default,by kernel_rfl,by kernel_rfl,by kernel_rfl,by kernel_rfl⟩
theorem o6a_3:∃ o,ops6a[3]? = some o∧o.op=.assign (.tmp 37)∧o.dst=some 11∧o.guard=none:=⟨(ops6a[3]?).getD default,by kernel_rfl,by kernel_rfl,by kernel_rfl,by kernel_rfl⟩
theorem o6b_0:∃ o,ops6b[0]? = some o∧o.op=.move (.tmp 11)∧o.dst=some 38∧o.guard=none:=⟨(ops6b[0]?).getD default,by kernel_rfl,by kernel_rfl,by kernel_rfl,by kernel_rfl⟩
theorem o6b_1:∃ o,ops6b[1]? = some o∧o.op=.move (.tmp 38)∧o.dst=some 39∧o.guard=none:=⟨(ops6b[1]?).getD default,by kernel_rfl,by kernel_rfl,by kernel_rfl,by kernel_rfl⟩
theorem o6b_2:∃ o,ops6b[2]? = some o∧o.op=.move (.tmp 9)∧o.dst=some 40∧o.guard=some (1,true):=⟨(ops6b[2]?).getD default,by kernel_rfl,by kernel_rfl,by kernel_rfl,by kernel_rfl⟩
theorem o6b_3:∃ o,ops6b[3]? = some o∧o.op=.call { callee:=.value (.func 15),args:=#[.tmp 40],argTypes:=#[26] }∧o.dst=some 41∧o.guard=some (1,true):=⟨(ops6b[3]?).getD default,by kernel_rfl,by kernel_rfl,by kernel_rfl,by kernel_rfl⟩
theorem o6b_4:∃ o,ops6b[4]? = some o∧o.op=.pick (.tmp 39) (.tmp 41) (.const (.bool false))∧o.dst=some 42∧o.guard=none:=⟨(ops6b[4]?).getD default,by kernel_rfl,by kernel_rfl,by kernel_rfl,by kernel_rfl⟩
theorem o6b_5:∃ o,ops6b[5]? = some o∧o.op=.assign (.tmp 42)∧o.dst=some 12∧o.guard=none:=⟨(ops6b[5]?).getD default,by kernel_rfl,by kernel_rfl,by kernel_rfl,by kernel_rfl⟩
end Go.Proofs.YtdianedehhecoaaGreatDoor.Co
/- Once, beside leavers: the whole. -/
namespace Go.Proofs.YtdianedehhecoaaGreatDoor.Co
variable [Loops]
open Go.Conc (G)
open Go.RowKit
section
variable {W:World} {a0:Act} {seed players behind:Int} {sa:Option Addr} {cap:Nat} {L:List Int}
theorem onc_wb (hS:S6 (.int .i64 seed) (.int .i64 players) (.int .i64 behind) (.slice sa L.length cap) a0)(hScr:Scr W W.heap.size (.slice sa L.length cap) L)(hL:L.length≤140737488351232)(b0:-9223372036854775808≤seed)(b1:seed≤9223372036854775807)(b2:-9223372036854775808≤players)(b3:players≤9223372036854775807)(b4:-9223372036854775808≤behind)(b5:behind≤9223372036854775807)(hC:Corners W)(hD:W.cell? ⟨4,15,none⟩=some (.int .u8 4)) :
  WB PP cOnc (fun e a w'=>e=.ret∧a.defers=[]∧a.tmps.getD 8 undef=.bool true∧Stays (fun k=>W.heap.size≤k) W w') a0 W:=by
 have h4:4<W.heap.size:=cell_lt hD
 have r2:=pickF_range players 3 (by omega)
 obtain ⟨P,hP⟩:∃ P,P=(2+pickF players 3).toNat:=⟨_,rfl⟩
 have p1:1≤P:=by omega
 have p2:2≤P:=by omega
 have p4:P≤4:=by omega
 have r1:=pickF_range seed 1000 (by omega)
 obtain ⟨N,hN⟩:∃ N,N=W.heap.size:=⟨_,rfl⟩
 rw[← hN]at hScr h4 ⊢
 have hNW:N≤W.heap.size:=by omega
 rw[c6_eq]
 refine WB.seq ((wb_piece (K:=S6 (.int .i64 seed) (.int .i64 players) (.int .i64 behind) (.slice sa L.length cap)) (w6_0 hS)).mono ?_)
 rintro e a1 w1 ⟨rfl,hS1,l1⟩
 refine WB.seq ((WB.of_wp PP_rdy (Q:=fun e a' w'=>e=.normal∧K6 W N (pickF seed 1000) P (.slice sa L.length cap) a' w') (fun e a w h=>.inl h.1) (fun t d=>w6_1 hS1 t d ?_)).mono ?_)
 ·have hc1:Corners (re w1 t d):=fun p hp=>by
   obtain ⟨h1,h2,h3,h4⟩:=hC p hp
   exact ⟨(World.cell?_of_block (w:=W) (by show w1.heap[_]? = _;rw[l1.1])).trans h1,(World.cell?_of_block (w:=W) (by show w1.heap[_]? = _;rw[l1.1])).trans h2,(World.cell?_of_block (w:=W) (by show w1.heap[_]? = _;rw[l1.1])).trans h3,(World.cell?_of_block (w:=W) (by show w1.heap[_]? = _;rw[l1.1])).trans h4⟩
  refine (begin_at seed players behind (re w1 t d) b0 b1 b2 b3 b4 b5 hc1 ((World.cell?_of_block (w:=W) (by show w1.heap[_]? = _;rw[l1.1])).trans hD)).mono ?_
  rintro e w' ⟨pb,he,hpb,hb,Q,hPA,-⟩
  have hz:(re w1 t d).heap.size=N:=by show w1.heap.size=N;rw[l1.1,hN]
  rw[hz]at hb hPA
  rw[← hP]at hPA
  refine ⟨pb,he,⟨hb.os.trans l1.2.1,hb.output.trans l1.2.2,?_,fun j hj hn=>?_⟩,Q,[],hPA⟩
  ·have:=hb.size
   rw[hz]at this
   omega
  ·refine (hb.block j (by omega)).trans ?_
   show w1.heap[j]? = _
   rw[l1.1]
 rintro e a2 w2 ⟨t2,d2,rfl,pb,hA2,hC2⟩
 have hC2:PlaysC W N pb (pickF seed 1000) P w2:=hC2.like ⟨rfl,rfl,rfl⟩
 refine WB.seq ((wb_piece (K:=HasS 172 [(3,.slice sa L.length cap),(9,pW pb)]) (w6_2 hA2)).mono ?_)
 rintro e a3 w3 ⟨rfl,hA3,l3⟩
 have hC3:=hC2.like l3
 refine WB.seq (WB.region ?_)
 rw[rng6a]
 obtain ⟨o,ho,hop,hds,hgd⟩:=o6a_0
 refine WR.op1 ho (wanted_none hgd) hds (run_move hop (hA3.get 9 (pW pb) (by simp))) fun w4 l4=>?_
 have hA4:=hA3.put 35 (pW pb) (by omega)
 have hC4:=hC3.like l4
 obtain ⟨o,ho,hop,hds,hgd⟩:=o6a_1
 refine WR.op1 ho (wanted_none hgd) hds (run_move hop (hA4.get 3 (.slice sa L.length cap) (by simp))) fun w6 l5=>?_
 have hA5:=hA4.put 36 (.slice sa L.length cap) (by omega)
 have hC5:=hC4.like l5
 obtain ⟨o,ho,hop,hds,hgd⟩:=o6a_2
 refine WR.callw ho hop (wanted_none hgd) f13_fn (by kernel_rfl) (by kernel_rfl) ?_
 rw[hds]
 have ea:(#[Operand.tmp 35,Operand.tmp 36].map ((a3.put (some 35) (pW pb)).put (some 36) (.slice sa L.length cap)).eval)=#[pW pb,.slice sa L.length cap]:=by
  simp only[List.map_toArray,List.map_cons,List.map_nil]
  rw[show ((a3.put (some 35) (pW pb)).put (some 36) (.slice sa L.length cap)).eval (.tmp 35)=pW pb from hA5.get 35 (pW pb) (by simp),show ((a3.put (some 35) (pW pb)).put (some 36) (.slice sa L.length cap)).eval (.tmp 36)=.slice sa L.length cap from hA5.get 36 (.slice sa L.length cap) (by simp)]
 rw[ea]
 refine (plays_cb hC5.self (Nat.le_trans hNW hC5.1.size) h4 ((World.cell?_of_block (w:=W) (hC5.1.block 4 (by omega) (by omega))).trans hD) (hScr.on fun k hk=>hC5.1.block k (by omega) (by omega)) hL p1).mono ?_
 rintro v w6 ⟨rfl,hC6⟩
 have hC6:=hC5.trans hC6
 have hA6:=hA5.put 37 (.bool true) (by omega)
 obtain ⟨o,ho,hop,hds,hgd⟩:=o6a_3
 refine WR.op1 ho (wanted_none hgd) hds (run_assign hop (hA6.get 37 (.bool true) (by simp))) fun w7 l7=>?_
 have hA7:=hA6.put 11 (.bool true) (by omega)
 have hC7:=hC6.like l7
 refine WR.nil ?_
 have hA7:HasS 172 [(11,.bool true),(9,pW pb)] (((((a3.put (some 35) (pW pb)).put (some 36) (.slice sa L.length cap)).put (some 37) (.bool true)).put (some 11) (.bool true))):=⟨hA7.size,hA7.defers,fun p hp=>by
  simp only[List.mem_cons,List.not_mem_nil,or_false]at hp
  rcases hp with rfl|rfl
  ·exact hA7.get _ _ (by simp)
  ·exact hA7.get _ _ (by simp)⟩
 show WB PP (.seq (.region 5 ops6b false) (after 5 cOnc)) _ _ w7
 generalize ((((a3.put (some 35) (pW pb)).put (some 36) (.slice sa L.length cap)).put (some 37) (.bool true)).put (some 11) (.bool true))=a7 at *
 clear hA3 hA4 hA5 hA6 ea
 refine WB.seq (WB.region ?_)
 rw[rng6b]
 obtain ⟨o,ho,hop,hds,hgd⟩:=o6b_0
 refine WR.op1 ho (wanted_none hgd) hds (run_move hop (hA7.get 11 (.bool true) (by simp))) fun w14 l14=>?_
 have hA14:=hA7.put 38 (.bool true) (by omega)
 have hC14:=hC7.like l14
 obtain ⟨o,ho,hop,hds,hgd⟩:=o6b_1
 refine WR.op1 ho (wanted_none hgd) hds (run_move hop (hA14.get 38 (.bool true) (by simp))) fun w15 l15=>?_
 have hA15:=hA14.put 39 (.bool true) (by omega)
 have hC15:=hC14.like l15
 obtain ⟨o,ho,hop,hds,hgd⟩:=o6b_2
 refine WR.op1 ho (wanted_some hgd (yielded_of (d:=39) (by kernel_rfl) (by rw[hA15.size];omega) (hA15.get 39 (.bool true) (by simp)))) hds (run_move hop (hA15.get 9 (pW pb) (by simp))) fun w16 l16=>?_
 have hA16:=hA15.put 40 (pW pb) (by omega)
 have hC16:=hC15.like l16
 obtain ⟨o,ho,hop,hds,hgd⟩:=o6b_3
 refine WR.callw ho hop (wanted_some hgd (yielded_of (d:=39) (by kernel_rfl) (by rw[hA16.size];omega) (hA16.get 39 (.bool true) (by simp)))) f15_fn (by kernel_rfl) (by kernel_rfl) ?_
 rw[hds]
 have ea:(#[Operand.tmp 40].map (((a7.put (some 38) (.bool true)).put (some 39) (.bool true)).put (some 40) (pW pb)).eval)=#[pW pb]:=by
  simp only[List.map_toArray,List.map_cons,List.map_nil]
  rw[show (((a7.put (some 38) (.bool true)).put (some 39) (.bool true)).put (some 40) (pW pb)).eval (.tmp 40)=pW pb from hA16.get 40 (pW pb) (by simp)]
 rw[ea]
 refine (all_cb hC16 hNW).mono ?_
 rintro v w17 ⟨rfl,hC17⟩
 have hA17:=hA16.put 41 (.bool true) (by omega)
 obtain ⟨o,ho,hop,hds,hgd⟩:=o6b_4
 refine WR.op1 ho (wanted_none hgd) hds (run_pick hop (hA17.get 39 (.bool true) (by simp)) (hA17.get 41 (.bool true) (by simp))) fun w18 l18=>?_
 have hA18:=hA17.put 42 (.bool true) (by omega)
 have hC18:=hC17.like l18
 obtain ⟨o,ho,hop,hds,hgd⟩:=o6b_5
 refine WR.op1 ho (wanted_none hgd) hds (run_assign hop (hA18.get 42 (.bool true) (by simp))) fun w19 l19=>?_
 have hB19:=hA18.put 12 (.bool true) (by omega)
 have hC19:=hC18.like l19
 refine WR.nil ?_
 obtain ⟨hst,Q,T,hPA,hall⟩:=hC19
 have h9:=hB19.get 9 (pW pb) (by simp)
 have h12:=hB19.get 12 (.bool true) (by simp)
 have hsz:=hB19.size
 have hdf:=hB19.defers
 generalize ((((((a7.put (some 38) (.bool true)).put (some 39) (.bool true)).put (some 40) (pW pb)).put (some 41) (.bool true)).put (some 42) (.bool true)).put (some 12) (.bool true))=a19 at *
 obtain ⟨tm,df⟩:=a19
 obtain rfl:df=[]:=hdf
 show WB PP (after 5 cOnc) _ _ w19
 refine (WB.of_wp PP_rdy (Q:=fun e a w'=>e=.ret∧a.defers=[]∧a.tmps.getD 8 undef=.bool true∧Stays (fun k=>N≤k) W w') (fun e a w h=>.inr (.inl h.1)) fun t d=>?_).mono ?_
 ·obtain ⟨n,sg,scap,hT'⟩:=PA.onc (PA.on hPA (w':=re w19 t d) fun _ _ _=>rfl) hall
  have hM:MOk Q.M:=by
   obtain ⟨⟨f,hP⟩,-⟩:=hPA
   obtain ⟨g,hM⟩:=hP.mat
   exact hM.ok
  have hL:∀ w',Below (re w19 t d).heap.size (re w19 t d) w'→_:=fun w' hb=>((PA.on hPA (w':=w') fun k hk hl=>(hb.block k hl).trans rfl).1.elim fun f x=>PG.lookH x)
  refine wp_mono (once_rest hT' (hPA.2.1.once hM p4) hL hsz h9 h12) fun e a w2 ⟨q1,q2,q3,q4⟩=>⟨q1,q2,q3,hst.low ⟨q4.os,q4.output,q4.size,fun j hj hn=>q4.block j hj⟩⟩
 ·rintro e a w22 ⟨t,d,q1,q2,q3,q4⟩
  exact ⟨q1,q2,q3,q4.os,q4.output,q4.size,q4.block⟩
end
end Go.Proofs.YtdianedehhecoaaGreatDoor.Co
/- Once: one good run from every start. -/
namespace Go.Proofs.YtdianedehhecoaaGreatDoor.Co
open Go.Conc (G solo)
open Go.RowKit
theorem f6_fn:PP.fg[6]? = some Tryz.f6:=by kernel_rfl
theorem f6_same:PP.fs[6]? = PP.fg[6]?:=by kernel_rfl
theorem f6_body:Tryz.f6.body=some cOnc:=by kernel_rfl
theorem f6_noInit:PP.T.inits.idxOf? 6=none:=by kernel_rfl
theorem once_good (W:World)(seed players behind:Int){cv:Value}{L:List Int}(hN:NArg W cv L)(hL:L.length≤140737488351232)(b0:-9223372036854775808≤seed)(b1:seed≤9223372036854775807)(b2:-9223372036854775808≤players)(b3:players≤9223372036854775807)(b4:-9223372036854775808≤behind)(b5:behind≤9223372036854775807)(hC:Corners W)(hD:W.cell? ⟨4,15,none⟩=some (.int .u8 4)) :
  letI:=loopsOf W
  ∃ N last o W' t',runNT PP.g (N+1) (solo (G (Frame.enter PP.g 6 #[.int .i64 seed,.int .i64 players,.int .i64 behind,cv] .normal) []) W) #[]=(.ended o W',t')∧runN PP.g N (solo (G (Frame.enter PP.g 6 #[.int .i64 seed,.int .i64 players,.int .i64 behind,cv] .normal) []) W)=.next last∧step PP.g last=.ended o W' ∧
   Go.Conc.Good PP.g (fun v W'=>∃ Γ w',(v=.bool true∧Stays (fun k=>W.heap.size≤k) (calmed W) w')∧Gh Γ w' W') last o W' t':=by
 letI:=loopsOf W
 have hN':=scr_calmed hN
 obtain ⟨sa,cap,rfl,-⟩:=hN
 have hC':Corners (calmed W):=fun p hp=>by
  obtain ⟨h1,h2,h3,h4⟩:=hC p hp
  exact ⟨calmedCell h1,calmedCell h2,calmedCell h3,calmedCell h4⟩
 have hD':=calmedCell hD
 have hcs:=calmedSize W
 refine good_of_base W f6_fn f6_same f6_body f6_noInit PP_rdy fun c hS=>?_
 refine (onc_wb (s6 _ _ _ _) hN' hL b0 b1 b2 b3 b4 b5 hC' hD' _ _ [] c hS).mono ?_
 rintro c4 ⟨e,a6,w6,⟨rfl,r2,r3,r4⟩,todo,hS⟩
 exact ⟨a6,w6,todo,.bool true,r2,⟨fun _ _=>0,0,by rw[results_tmp rfl,r3]⟩,⟨rfl,by rw[hcs]at r4;exact r4⟩,hS⟩
end Go.Proofs.YtdianedehhecoaaGreatDoor.Co