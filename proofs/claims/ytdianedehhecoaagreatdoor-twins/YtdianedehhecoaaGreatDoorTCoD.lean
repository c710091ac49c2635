/- The program and its barred sister fit. -/
import Derived.Test.YtdianedehhecoaaGreatDoorTCoC
import Derived.Test.YtdianedehhecoaaGreatDoorTBar
import Derived.Laws.LoneSync
import Derived.Conc.Own2
set_option linter.unusedSectionVars false
set_option linter.unusedVariables false
set_option linter.unusedSimpArgs false
set_option linter.constructorNameAsVariable false
set_option maxRecDepth 100000
namespace Go.Proofs.YtdianedehhecoaaGreatDoor.Co
variable [Loops]
open Go.Proofs.YtdianedehhecoaaGreatDoor (Pz.funcs Pz.prog Pz.f154 Pz.f155 Lk.body Lk.s0 Lk.s2 Lk.s3 Lk.g0 Lk.g2 Lk.g3 Lk.great Uk.body Uk.s1 Uk.s2 Uk.s6 Uk.g1 Uk.g2 Uk.g6 Uk.great)
noncomputable def PP:Two:=⟨Tryz.prog.toTables,Pz.funcs,Tryz.prog.funcs⟩
theorem PP_g:PP.g=Tryz.prog:=rfl
def isBar (f:Nat):Bool:=[0,1,71,122,127,129,130,131,133,134,135,136,174,175,176,179,181,183,184,198,200,209,210,211,219,220,221,222,223,224,225,234,235,236,237,238,239,240,241,242,243,244,245,246,247,248,266,267,269,270,271,272,273,274].contains f
noncomputable def pick (i:Nat)(fn:Func):Func:=if isBar i then barredF else if i=154 then Pz.f154 else if i=155 then Pz.f155 else fn
theorem PP_funcs:PP.fs=PP.fg.mapIdx (fun i fn=>pick i fn):=by kernel_rfl
theorem pick_bar {i:Nat}(fn:Func)(h:isBar i=true):pick i fn=barredF:=by simp [pick,h]
theorem pick_same {i:Nat}(fn:Func)(h:isBar i=false)(h1:i≠154)(h2:i≠155):pick i fn=fn:=by simp [pick,h,h1,h2]
theorem PP_s154:PP.fs[154]? = some Pz.f154:=by kernel_rfl
theorem PP_s155:PP.fs[155]? = some Pz.f155:=by kernel_rfl
theorem PP_g154:PP.fg[154]? = some Tryz.f154:=by kernel_rfl
theorem PP_g155:PP.fg[155]? = some Tryz.f155:=by kernel_rfl
theorem nm154 : (Pz.f154.name == "runtime.NumGoroutine") = false := by kernel_rfl
theorem nm155 : (Pz.f155.name == "runtime.NumGoroutine") = false := by kernel_rfl
theorem ng154 : (Tryz.f154.name == "runtime.NumGoroutine") = false := by kernel_rfl
theorem ng155 : (Tryz.f155.name == "runtime.NumGoroutine") = false := by kernel_rfl
theorem ok154:okC PP.s (Lk.body Lk.s0 Lk.s2 Lk.s3)=true:=by kernel_rfl
theorem ok155:okC PP.s (Uk.body Uk.s1 Uk.s2 Uk.s6)=true:=by kernel_rfl
theorem PP_stub154:isStub PP 154:=⟨_,_,_,_,PP_s154,PP_g154,rfl,Lk.great,nm154,ng154,fun e=>by
 rw[PP_s154,PP_g154]at e
 have:=congrArg Func.body (Option.some.inj e)
 rw[Lk.great]at this
 simp[Pz.f154,Lk.body,Lk.s0,Lk.g0]at this⟩
theorem PP_stub155:isStub PP 155:=⟨_,_,_,_,PP_s155,PP_g155,rfl,Uk.great,nm155,ng155,fun e=>by
 rw[PP_s155,PP_g155]at e
 have:=congrArg Func.body (Option.some.inj e)
 rw[Uk.great]at this
 simp[Pz.f155,Uk.body,Uk.s1,Uk.g1]at this⟩
theorem PP_names : PP.fg.toList.all (fun fn => !(fn.name == "runtime.NumGoroutine")) = true := by kernel_rfl
theorem PP_bodies:(List.range 276).all (fun f=>isBar f || (PP.fg[f]?).all (fun fn=>fn.body.isSome) || [114,153,169,170,197,199,217,218].contains f)=true:=by kernel_rfl
theorem PP_size:PP.fg.size=276:=by kernel_rfl
theorem PP_code:(List.range 276).all (fun f=>isBar f || (PP.fg[f]?).all (fun fn=>fn.body.all (okC PP.g)))=true:=by kernel_rfl
theorem PP_ahead:PP.T.follows .staticDataAhead=true:=by kernel_rfl
theorem PP_ready:PP.fs.toList.all (fun fn=>fn.body.all (fun c=>(readies c).isEmpty))=true:=by kernel_rfl
theorem PP_114:PP.fg[114]? = some Tryz.f114∧Extern.findNext Tryz.f114=none∧Extern.find Tryz.f114=some Extern.Atomic.storeT:=⟨by kernel_rfl,by kernel_rfl,by kernel_rfl⟩
theorem PP_153:PP.fg[153]? = some Tryz.f153∧Extern.findNext Tryz.f153=none∧Extern.find Tryz.f153=some (Extern.Atomic.loadT .ptr):=⟨by kernel_rfl,by kernel_rfl,by kernel_rfl⟩
theorem PP_169:PP.fg[169]? = some Tryz.f169∧Extern.findNext Tryz.f169=none∧Extern.find Tryz.f169=some (Extern.Atomic.loadT (.int .i64)):=⟨by kernel_rfl,by kernel_rfl,by kernel_rfl⟩
theorem PP_170:PP.fg[170]? = some Tryz.f170∧Extern.findNext Tryz.f170=none∧Extern.find Tryz.f170=some (Extern.Atomic.casT (.int .i64)):=⟨by kernel_rfl,by kernel_rfl,by kernel_rfl⟩
theorem PP_197:PP.fg[197]? = some Tryz.f197∧Extern.findNext Tryz.f197=none∧Extern.find Tryz.f197=some (Extern.Atomic.casT (.int .i32)):=⟨by kernel_rfl,by kernel_rfl,by kernel_rfl⟩
theorem PP_199:PP.fg[199]? = some Tryz.f199∧Extern.findNext Tryz.f199=none∧Extern.find Tryz.f199=some (Extern.Atomic.update (Op.intArith .add) .i32 true):=⟨by kernel_rfl,by kernel_rfl,by kernel_rfl⟩
theorem PP_217:PP.fg[217]? = some Tryz.f217∧Extern.findNext Tryz.f217=none∧Extern.find Tryz.f217=some Extern.AbiNoEscape.same:=⟨by kernel_rfl,by kernel_rfl,by kernel_rfl⟩
theorem PP_218:PP.fg[218]? = some Tryz.f218∧Extern.findNext Tryz.f218=none∧Extern.find Tryz.f218=some (Extern.BytealgMakeNoZero.makeNoZero Tryz.f218.params Tryz.f218.resultTypes):=⟨by kernel_rfl,by kernel_rfl,by kernel_rfl⟩
variable {Γ:Nat→Prop}
theorem kin_of {fn:Func}{e0:Array Value→Sem Value}{f:Nat}{fn0:Func}(h:PP.fg[f]? = some fn0∧Extern.findNext fn0=none∧Extern.find fn0=some e0)(hfn:PP.fg[f]? = some fn)(hk:∀ v,Kin Γ PP (e0 v)):kinExt Γ PP fn:=by
 obtain ⟨h1,h2,h3⟩:=h
 rw[h1]at hfn
 cases hfn
 refine ⟨h2,fun e he v=>?_⟩
 rw[h3]at he
 cases he
 exact hk v
theorem PP_fs (f:Nat):PP.fs[f]? = (PP.fg[f]?).map (fun fn=>pick f fn):=by rw [PP_funcs,Array.getElem?_mapIdx]
theorem PP_bars:Bars Γ PP:=by
 refine ⟨by rw[PP_funcs];simp,fun f hf=>?_⟩
 have hf2:f<276:=by rw[← PP_size];exact hf
 by_cases e1:f=154
 ·subst e1;exact .inr (.inl PP_stub154)
 by_cases e2:f=155
 ·subst e2;exact .inr (.inl PP_stub155)
 rw[PP_fs]
 obtain ⟨fn,hfn⟩:∃ fn,PP.fg[f]? = some fn:=⟨_,Array.getElem?_eq_getElem hf⟩
 rw[hfn]
 cases hb:isBar f with
 | true=>exact .inl (by rw[Option.map_some,pick_bar _ hb])
 | false =>
  refine .inr (.inr ⟨by rw[Option.map_some,pick_same _ hb e1 e2],fun fn' hfn'=>?_⟩)
  cases hfn'
  refine ⟨?_,fun hbody=>?_⟩
  ·have:=List.all_eq_true.1 PP_names fn (by simpa using Array.mem_of_getElem? hfn)
   simpa using this
  ·have:=List.all_eq_true.1 PP_bodies f (List.mem_range.2 hf2)
   rw[hb,hfn]at this
   simp only[Option.all_some,hbody,Option.isSome_none,Bool.false_or,List.contains_eq_mem,List.mem_cons,List.not_mem_nil,or_false,decide_eq_true_eq]at this
   rcases this with rfl|rfl|rfl|rfl|rfl|rfl|rfl|rfl
   ·exact kin_of PP_114 hfn Kin.astore
   ·exact kin_of PP_153 hfn (Kin.aload _)
   ·exact kin_of PP_169 hfn (Kin.aload _)
   ·exact kin_of PP_170 hfn (Kin.acas _)
   ·exact kin_of PP_197 hfn (Kin.acas _)
   ·exact kin_of PP_199 hfn (Kin.aupdate (fun _ _ _=>Kin.intArith _ _ _ _) _ _)
   ·exact kin_of PP_217 hfn Kin.noEscape
   ·exact kin_of PP_218 hfn (Kin.makeNoZero _ _)
theorem PP_fit:Fit Γ PP:=by
 refine ⟨PP_bars,fun f fn c hfn hs hb=>?_,PP_ahead,fun g=>?_⟩
 ·have hf:f<276:=by rw[← PP_size];exact (Array.getElem?_eq_some_iff.1 hfn).1
  have:=List.all_eq_true.1 PP_code f (List.mem_range.2 hf)
  rw[hfn]at this
  cases hbar:isBar f with
  | true =>
   rw[PP_fs,hfn]at hs
   rw[Option.map_some,pick_bar _ hbar,Option.some.injEq]at hs
   rw[← hs]at hb
   cases hb
  | false =>
   rw[hbar]at this
   simpa [hb] using this
 ·show (PP.fs.findIdx? fun f=>(f.body.map readies).any (·.contains g))=none
  rw[Array.findIdx?_eq_none_iff]
  intro fn hfn
  have:=List.all_eq_true.1 PP_ready fn (by simpa using hfn)
  cases hb:fn.body with
  | none=>rfl
  | some c =>
   rw[hb]at this
   simp only[Option.all_some,List.isEmpty_iff]at this
   simp[this]
theorem kin_of_self {fn:Func}{e0:Array Value→Sem Value}{f:Nat}{fn0:Func}(h:PP.fg[f]? = some fn0∧Extern.findNext fn0=none∧Extern.find fn0=some e0)(hfn:PP.fg[f]? = some fn)(hk:∀ v,Kin Γ PP.self (e0 v)):kinExt Γ PP.self fn:=by
 obtain ⟨h1,h2,h3⟩:=h
 rw[h1]at hfn
 cases hfn
 refine ⟨h2,fun e he v=>?_⟩
 rw[h3]at he
 cases he
 exact hk v
theorem PP_self_bars : Bars Γ PP.self := by
  refine ⟨rfl, fun f hf => ?_⟩
  have hf2 : f < 276 := by rw [← PP_size]; have : PP.fs.size = PP.fg.size := by rw [PP_funcs]; simp
                           rw [← this]; exact hf
  show PP.fs[f]? = some barredF ∨ isStub PP.self f ∨ (PP.fs[f]? = PP.fs[f]? ∧ ∀ fn, PP.fs[f]? = some fn → (fn.name == "runtime.NumGoroutine") = false ∧ (fn.body = none → kinExt Γ PP.self fn))
  by_cases e1 : f = 154
  · subst e1
    refine .inr (.inr ⟨rfl, fun fn h => ?_⟩)
    rw [PP_s154] at h
    cases h
    exact ⟨nm154, fun e => by cases e⟩
  by_cases e2 : f = 155
  · subst e2
    refine .inr (.inr ⟨rfl, fun fn h => ?_⟩)
    rw [PP_s155] at h
    cases h
    exact ⟨nm155, fun e => by cases e⟩
  rw [PP_fs]
  obtain ⟨fn, hfn⟩ : ∃ fn, PP.fg[f]? = some fn := ⟨_, Array.getElem?_eq_getElem (by rw [PP_size]; exact hf2)⟩
  rw [hfn]
  cases hb : isBar f with
  | true => exact .inl (by rw [Option.map_some, pick_bar _ hb])
  | false =>
    refine .inr (.inr ⟨rfl, fun fn' hfn' => ?_⟩)
    rw [Option.map_some, pick_same _ hb e1 e2, Option.some.injEq] at hfn'
    subst hfn'
    refine ⟨?_, fun hbody => ?_⟩
    · have := List.all_eq_true.1 PP_names fn (by simpa using Array.mem_of_getElem? hfn)
      simpa using this
    · have := List.all_eq_true.1 PP_bodies f (List.mem_range.2 hf2)
      rw [hb, hfn] at this
      simp only [Option.all_some, hbody, Option.isSome_none, Bool.false_or, List.contains_eq_mem, List.mem_cons, List.not_mem_nil, or_false, decide_eq_true_eq] at this
      rcases this with rfl | rfl | rfl | rfl | rfl | rfl | rfl | rfl
      · exact kin_of_self PP_114 hfn Kin.astore
      · exact kin_of_self PP_153 hfn (Kin.aload _)
      · exact kin_of_self PP_169 hfn (Kin.aload _)
      · exact kin_of_self PP_170 hfn (Kin.acas _)
      · exact kin_of_self PP_197 hfn (Kin.acas _)
      · exact kin_of_self PP_199 hfn (Kin.aupdate (fun _ _ _ => Kin.intArith _ _ _ _) _ _)
      · exact kin_of_self PP_217 hfn Kin.noEscape
      · exact kin_of_self PP_218 hfn (Kin.makeNoZero _ _)
theorem PP_self_fit:Fit Γ PP.self:=by
 refine ⟨PP_self_bars,fun f fn c hfn hs hb=>?_,PP_ahead,fun g=>(PP_fit (Γ:=Γ)).readies g⟩
 have h0:PP.fs[f]? = some fn:=hfn
 by_cases e1:f=154
 ·subst e1
  rw[PP_s154]at h0
  cases h0
  cases hb
  exact ok154
 by_cases e2:f=155
 ·subst e2
  rw[PP_s155]at h0
  cases h0
  cases hb
  exact ok155
 rw[PP_fs]at h0
 obtain ⟨fn0,hfn0,e⟩:=Option.map_eq_some_iff.1 h0
 cases hbar:isBar f with
 | true =>
  rw[pick_bar _ hbar]at e
  rw[← e]at hb
  cases hb
 | false =>
  rw[pick_same _ hbar e1 e2]at e
  subst e
  show okC PP.s c=true
  rw[okC_two (P:=PP)]
  exact (PP_fit (Γ:=Γ)).code f fn0 c hfn0 (by rw[PP_fs,hfn0,Option.map_some,pick_same _ hbar e1 e2]) hb
end Go.Proofs.YtdianedehhecoaaGreatDoor.Co
/- Lock and Unlock of the program keep what their blocks ask: the program and its barred sister are ready. -/
namespace Go.Proofs.YtdianedehhecoaaGreatDoor.Co
variable [Loops]
open Go.Proofs.YtdianedehhecoaaGreatDoor (Pz.funcs Pz.prog Pz.f154 Pz.f155 Lk.body Lk.s0 Lk.s2 Lk.s3 Lk.g0 Lk.g2 Lk.g3 Lk.p0 Lk.p1 Lk.p2 Lk.p3 Lk.m3 Lk.v3 Lk.q0 Lk.q1 Lk.great Uk.body Uk.s1 Uk.s2 Uk.s6 Uk.g1 Uk.g2 Uk.g6 Uk.p0 Uk.p1 Uk.p2 Uk.p3 Uk.m1 Uk.v1 Uk.r0 Uk.r1 Uk.r2 Uk.r3 Uk.r4 Uk.t0 Uk.t1 Uk.q0 Uk.q1 Uk.q2 Uk.great)
def Yl {α:Type}(p:Sem α)(s:Program)(K:α→Prop):Prop:=∀ w x w',p.run s w=.ok x w'→K x
section
variable {α β:Type} {s:Program} {J:α→Prop} {K:β→Prop}
theorem Yl.bind {p:Sem α}{q:α→Sem β}(h:Yl p s J)(hq:∀ x,J x→Yl (q x) s K):Yl (p >>= q) s K:=by
 intro w y w' e
 rw[Sem.run_bind]at e
 cases hp:p.run s w with
 | ok x w1=>rw[hp]at e;exact hq x (h w x w1 hp) w1 y w' e
 | halt x w1=>rw[hp]at e;cases e
theorem Yl.pure {x:α}(h:J x):Yl (Pure.pure x:Sem α) s J:=by
 intro w y w' e
 rw[Sem.run_pure]at e
 cases e
 exact h
theorem Yl.any {p:Sem α}:Yl p s fun _=>True:=fun _ _ _ _=>trivial
theorem Yl.halt {x:Halt}:Yl (Sem.halt x:Sem α) s J:=by
 intro w y w' e
 cases e
theorem yl_value {p:Sem Value}{Q:Value→Prop}(h:Yl p s Q):Yl (do Pure.pure (Next.value (← p)):Sem Next) s fun n=>∃ v,n=.value v∧Q v:=Yl.bind h fun v hv=>Yl.pure ⟨v,rfl,hv⟩
end
def isPtr (v:Value):Prop:=∃ a:Addr,v=.pointer (some a)
theorem u296:PP.s.underlying 296=some (.pointer 130):=by kernel_rfl
theorem u115:PP.s.underlying 115=some .unsafePointer:=by kernel_rfl
theorem conv_ptr (a:Addr):Yl (convert 296 115 (.pointer (some a))) PP.s isPtr:=by
 intro w x w' e
 have e2:(convert 296 115 (.pointer (some a))).run PP.s w=(Conv.unsafePointer 296 115 (.pointer (some a))).run PP.s w:=by
  simp[convert,run_underlying u296,run_underlying u115,Result.andThen]
 rw[e2]at e
 simp only[Conv.unsafePointer,Sem.run_bind,run_underlying u296,run_underlying u115,Result.andThen]at e
 split at e
 ·split at e
  ·split at e
   ·split at e
    all_goals
     split at e
     ·cases e;exact ⟨_,rfl⟩
     ·cases e;exact ⟨_,rfl⟩
   ·cases e
  ·cases e
 ·cases e
theorem field_ptr {s:TypeId}{x:Value}{i:Nat}{w:World}{v:Value}{w':World}(h:(Instr.fieldAt s x i).run PP.s w=.ok v w'):isPtr x:=by
  refine Classical.byContradiction fun hno=>?_
  have hs : ∀ u, (Instr.sureAddr x).run PP.s u = .halt (.stuck "an address expected (no nilCheck in front?)") u := fun u => by
    unfold Instr.sureAddr
    split
    · rename_i a;exact absurd ⟨a,rfl⟩ hno
    · rfl
  have:Yl (Instr.fieldAt s x i) PP.s fun _=>False:=by
    unfold Instr.fieldAt
    refine Yl.bind Yl.any fun t _=>?_
    split
    · split
      · refine Yl.bind (J:=fun _=>False) (fun u y u' e=>?_) fun _ f=>f.elim
        rw[hs]at e;cases e
      · exact Yl.halt
    · exact Yl.halt
  exact this _ _ _ h
theorem all_of {α:Type}{l:List α}{q:α→Bool}(h:l.all q=true):∀ o∈l,q o=true:=fun o ho=>List.all_eq_true.1 h o ho
theorem free_of {l:List Oper}(h:l.map (·.guard)=List.replicate l.length none):∀ o∈l,o.guard=none:=fun o ho=>by
 have:o.guard∈l.map (·.guard):=List.mem_map_of_mem ho
 rw[h]at this
 exact (List.mem_replicate.1 this).2
abbrev Vals (o:Oper):Prop:=∀ (a:Act) W n W',(execOp a.eval o).run PP.s W=.ok n W'→∃ v,n=.value v
theorem val_move {o:Oper}{x:Operand}(h:o.op=.move x∨o.op=.assign x):Vals o:=by
 intro a W n W' e
 rcases h with h|h<;>(simp only[execOp,h,Sem.run_pure,Result.ok.injEq]at e;exact ⟨_,e.1.symm⟩)
theorem val_v {o:Oper}{q:(Operand→Value)→Sem Value}(h:∀ ρ,execOp ρ o=(do Pure.pure (Next.value (← q ρ)):Sem Next)):Vals o:=by
 intro a W n W' e
 rw[h]at e
 obtain ⟨v,hv,_⟩:=yl_value (s:=PP.s) (p:=q a.eval) (Q:=fun _=>True) Yl.any W n W' e
 exact ⟨v,hv⟩
theorem val_nil {o:Oper}{x:Operand}(h:o.op=.nilCheck x):Vals o:=by
 intro a W n W' e
 have hy:Yl (execOp a.eval o) PP.s fun n=>∃ v,n=.value v:=by
  unfold execOp
  rw[h]
  dsimp only
  split
  ·exact Yl.bind Yl.any fun _ _=>Yl.halt
  ·exact Yl.bind Yl.any fun _ _=>Yl.halt
  ·exact Yl.bind Yl.any fun _ _=>Yl.halt
  ·split
   ·exact Yl.bind Yl.any fun _ _=>Yl.halt
   ·refine Yl.bind Yl.any fun _ _=>Yl.bind Yl.any fun _ _=>?_
    split
    ·exact Yl.bind Yl.any fun _ _=>Yl.pure ⟨_,rfl⟩
    ·exact Yl.pure ⟨_,rfl⟩
   ·exact Yl.pure ⟨_,rfl⟩
  ·exact Yl.pure ⟨_,rfl⟩
 exact hy W n W' e
theorem val_ext {o : Oper} {f : FuncId} {xs : Array Operand} {ats : Array TypeId} {fn : Func} {e0 : Array Value → Sem Value} (h : o.op = .call { callee := .value (.func f), args := xs, argTypes := ats }) (hf : PP.s.funcs[f]? = some fn) (hnm : (fn.name == "runtime.NumGoroutine") = false) (hb : fn.body.isNone = true) (hn : Extern.findNext fn = none) (he : Extern.find fn = some e0) : Vals o := by
  intro a W n W' e
  rw[Go.Conc.execOp_call_func h,run_callFunc_extern hf hnm hb hn he]at e
  cases hr:(e0 (xs.map a.eval)).run PP.s W with
  | ok v w1=>rw[hr]at e;simp only[Result.andThen,Result.ok.injEq]at e;exact ⟨v,e.1.symm⟩
  | halt x w1=>rw[hr]at e;cases e
theorem s197:PP.s.funcs[197]? = some Tryz.f197:=by kernel_rfl
theorem s199:PP.s.funcs[199]? = some Tryz.f199:=by kernel_rfl
theorem b198:PP.fs[198]? = some barredF:=by kernel_rfl
theorem b200:PP.fs[200]? = some barredF:=by kernel_rfl
theorem acq_run (ad:Addr)(W:World):(Go.callFunc 130 #[.pointer (some ad)]).run PP.g W=.ok (.value (.tuple #[])) W:=by kernel_rfl
theorem acq_ev (ad:Addr)(W:World):Go.seen PP.g 154 ((Go.callFunc 130 #[.pointer (some ad)]).events PP.g W #[])=#[⟨.mark (.acquire ad),false,true⟩]:=by kernel_rfl
theorem rel_run (ad:Addr)(W:World):(Go.callFunc 174 #[.pointer (some ad)]).run PP.g W=.ok (.value (.tuple #[])) W:=by kernel_rfl
theorem rel_ev (ad:Addr)(W:World):Go.seen PP.g 155 ((Go.callFunc 174 #[.pointer (some ad)]).events PP.g W #[])=#[⟨.mark (.releaseMerge ad),false,true⟩]:=by kernel_rfl
theorem eval_put {a:Act}{d:Nat}{v:Value}(h:d<a.tmps.size):(a.put (some d) v).eval (.tmp d)=v:=by
 simp[Act.put,Act.eval,h]
theorem eval_ne {a:Act}{d i:Nat}{v:Value}(h:d≠i):(a.put (some d) v).eval (.tmp i)=a.eval (.tmp i):=by
 simp only[Act.put,Act.eval,Array.getD_eq_getD_getElem?]
 rw[Array.getElem?_setIfInBounds_ne h]
theorem ptr0 {a:Act}{x4 x5 x6:Value}{o0 o1 o2:Oper}{t:TypeId}{W1 W1' W2 W2' W3 W3':World}(hs:5<a.tmps.size)(h0:o0.op=.move (.tmp 0))(d0:o0.dst=some 3)(h1:o1.op=.nilCheck (.tmp 3))(d1:o1.dst=some 4)(h2:o2.op=.fieldAddr t (.tmp 4) 0)
  (e0:(execOp a.eval o0).run PP.s W1=.ok (.value x4) W1')(e1:(execOp (a.put o0.dst x4).eval o1).run PP.s W2=.ok (.value x5) W2')(e2:(execOp ((a.put o0.dst x4).put o1.dst x5).eval o2).run PP.s W3=.ok (.value x6) W3'):isPtr (a.eval (.tmp 0)):=by
 simp only[execOp,h0,Sem.run_pure,Result.ok.injEq,Next.value.injEq]at e0
 rw[d0]at e1 e2
 rw[d1]at e2
 have hx5:isPtr x5:=by
  simp only[execOp,h2]at e2
  rw[eval_put (by rw[put_size];omega)]at e2
  rw[Sem.run_bind]at e2
  cases hr:(Instr.fieldAt t x5 0).run PP.s W3 with
  | ok v w1=>exact field_ptr hr
  | halt y w1=>rw[hr]at e2;cases e2
 obtain ⟨ad,rfl⟩:=hx5
 simp only[execOp,h1]at e1
 rw[eval_put (by omega)]at e1
 rw[e0.1]
 revert e1
 cases x4 with
 | pointer p =>
  cases p with
  | none=>intro e1;cases e1
  | some q=>intro _;exact ⟨q,rfl⟩
 | nilIface=>intro e1;cases e1
 | nilFunc=>intro e1;cases e1
 | func f first cap =>
  intro e1
  exfalso
  revert e1
  cases f with
  | method name =>
   dsimp only
   split
   ·intro e1;cases e1
   ·intro e1
    simp only[Sem.run_bind,Result.andThen]at e1
    split at e1
    ·split at e1
     ·split at e1
      ·cases e1
      ·simp at e1
     ·cases e1
    ·cases e1
   ·intro e1;simp at e1
  | _=>intro e1;simp at e1
 | _=>intro e1;simp at e1
theorem okS_of {l:List Oper}(h:(l.all fun o=>okOp PP.s o.op)=true):∀ o∈l,okOp PP.s o.op=true:=all_of (q:=fun o:Oper=>okOp PP.s o.op) h
theorem okG_of {l:List Oper}(h:(l.all fun o=>okOp PP.g o.op)=true):∀ o∈l,okOp PP.g o.op=true:=all_of (q:=fun o:Oper=>okOp PP.g o.op) h
theorem mute_of {o:Oper}(h:o.op=.move (.const (.tuple #[])))(a:Act)(W:World)(fn:FuncId):(execOp a.eval o).run PP.s W=.ok (.value (.tuple #[])) W∧Go.Conc.listed PP.s fn a o W=#[]:=by
 constructor
 ·simp only[execOp,h,Sem.run_pure];rfl
 ·simp only[Go.Conc.listed,execOp,h]
  exact Go.Conc.seen_none _ _
theorem slow_of {o:Oper}{f:FuncId}{xs:Array Operand}{ats:Array TypeId}(h:o.op=.call { callee:=.value (.func f),args:=xs,argTypes:=ats })(hf:PP.fs[f]? = some barredF)(a:Act)(W:World):∃ x,badH x∧(execOp a.eval o).run PP.s W=.halt x W :=
  ⟨.unsupported (.extern "barred"), trivial, by rw [Go.Conc.execOp_call_func h]; exact barred_run _ _ hf W⟩
theorem conv_val {o:Oper}{a:Act}{ad:Addr}{v:Value}{W W':World}(h:o.op=.convert 296 115 (.tmp 8)∨o.op=.convert 296 115 (.tmp 7))(hv:∀ i,o.op=.convert 296 115 (.tmp i)→a.eval (.tmp i)=.pointer (some ad))(e:(execOp a.eval o).run PP.s W=.ok (.value v) W'):isPtr v:=by
 have key:∀ i,o.op=.convert 296 115 (.tmp i)→isPtr v:=fun i hi=>by
  simp only[execOp,hi]at e
  rw[hv i hi,Sem.run_bind]at e
  cases hr:(convert 296 115 (.pointer (some ad))).run PP.s W with
  | ok u w1 =>
   rw[hr]at e
   simp only[Result.andThen,Sem.run_pure,Result.ok.injEq,Next.value.injEq]at e
   rw[← e.1]
   exact conv_ptr ad W u w1 hr
  | halt y w1=>rw[hr]at e;cases e
 rcases h with h|h
 ·exact key _ h
 ·exact key _ h
theorem lock_vals:∀ o∈[Lk.p0,Lk.p1,Lk.p2,Lk.p3,Lk.m3,Lk.v3,Lk.q0],Vals o:=by
 intro o ho
 simp only[List.mem_cons,List.not_mem_nil,or_false]at ho
 rcases ho with rfl|rfl|rfl|rfl|rfl|rfl|rfl
 ·exact val_move (.inl rfl)
 ·exact val_nil rfl
 ·exact val_v (fun ρ=>rfl)
 ·exact val_ext rfl s197 (by kernel_rfl) (by kernel_rfl) PP_197.2.1 PP_197.2.2
 ·exact val_move (.inl rfl)
 ·exact val_v (fun ρ=>rfl)
 ·exact val_move (.inl rfl)
theorem unlock_vals:∀ o∈[Uk.p0,Uk.p1,Uk.p2,Uk.p3,Uk.m1,Uk.v1,Uk.r0,Uk.r1,Uk.r2,Uk.r3,Uk.r4,Uk.t0,Uk.t1,Uk.q0,Uk.q1],Vals o:=by
 intro o ho
 simp only[List.mem_cons,List.not_mem_nil,or_false]at ho
 rcases ho with rfl|rfl|rfl|rfl|rfl|rfl|rfl|rfl|rfl|rfl|rfl|rfl|rfl|rfl|rfl
 ·exact val_move (.inl rfl)
 ·exact val_nil rfl
 ·exact val_v (fun ρ=>rfl)
 ·exact val_v (fun ρ=>rfl)
 ·exact val_move (.inl rfl)
 ·exact val_v (fun ρ=>rfl)
 ·exact val_move (.inl rfl)
 ·exact val_nil rfl
 ·exact val_v (fun ρ=>rfl)
 ·exact val_ext rfl s199 (by kernel_rfl) (by kernel_rfl) PP_199.2.1 PP_199.2.2
 ·exact val_move (.inr rfl)
 ·exact val_move (.inl rfl)
 ·exact val_v (fun ρ=>rfl)
 ·exact val_move (.inl rfl)
 ·exact val_move (.inl rfl)
theorem mark_call {o:Oper}{f:FuncId}{i:Nat}{ats:Array TypeId}{a:Act}{ad:Addr}(h:o.op=.call { callee:=.value (.func f),args:=#[.tmp i],argTypes:=ats })(hv:a.eval (.tmp i)=.pointer (some ad)):execOp a.eval o=Go.callFunc f #[.pointer (some ad)]:=by
 rw[Go.Conc.execOp_call_func h]
 simp[hv]
noncomputable def lockAt:LockAt PP 154 where
 sf:=Pz.f154
 fn:=Tryz.f154
 hs:=PP_s154
 hg:=PP_g154
 nt:=rfl
 rs:=by kernel_rfl
 rg:=by kernel_rfl
 i0:=_
 i1:=_
 i2:=_
 i3:=_
 i4:=_
 s0:=Lk.s0
 g0:=Lk.g0
 s2:=Lk.s2
 g2:=Lk.g2
 s3:=Lk.s3
 g3:=Lk.g3
 p0:=Lk.p0
 p1:=Lk.p1
 p2:=Lk.p2
 p3:=Lk.p3
 m3:=Lk.m3
 v3:=Lk.v3
 q0:=Lk.q0
 q1:=Lk.q1
 bs:=rfl
 bg:=Lk.great
 free:=free_of (by rfl)
 okS:=okS_of (by kernel_rfl)
 okG:=okG_of (by kernel_rfl)
 dst:=⟨rfl,rfl,rfl⟩
 mute:=by
  intro o ho
  simp only[List.mem_cons,List.not_mem_nil,or_false]at ho
  rcases ho with rfl|rfl|rfl<;>exact mute_of rfl
 dis:=fun a W=>⟨by kernel_rfl,by kernel_rfl⟩
 ena:=fun a W=>⟨by kernel_rfl,by kernel_rfl⟩
 vals:=lock_vals
 slow:=slow_of rfl b198
 nt13:=by kernel_rfl
 acq:=by
  intro a hsz x4 x5 x6 x7 x8 x9 W1 W1' W2 W2' W3 W3' W4 W4' W5 W5' W6 W6' e1 e2 e3 e4 e5 e6
  obtain ⟨ad,h0⟩:=ptr0 (by omega) rfl rfl rfl rfl rfl e1 e2 e3
  have hm:x8=.pointer (some ad):=by
   simp only[execOp,Lk.m3,Sem.run_pure,Result.ok.injEq,Next.value.injEq]at e5
   rw[← e5.1]
   simp only[Lk.s2,Lk.p3,Lk.p2,Lk.p1,Lk.p0]
   rw[eval_ne (by decide),eval_ne (by decide),eval_ne (by decide),eval_ne (by decide),eval_ne (by decide)]
   exact h0
  subst hm
  obtain ⟨ad2,rfl⟩:=conv_val (.inl rfl) (fun i hi=>by
   simp only[Lk.v3,Op.convert.injEq,Operand.tmp.injEq,true_and]at hi
   rw[← hi]
   simp only[Lk.m3]
   exact eval_put (by simp only[put_size];omega)) e6
  refine ⟨ad2,fun W=>?_⟩
  have hc:=mark_call (o:=Lk.g3) (f:=130) (i:=9) (ad:=ad2) rfl (a:=(((((((a.put Lk.p0.dst x4).put Lk.p1.dst x5).put Lk.p2.dst x6).put Lk.p3.dst x7).put Lk.s2.dst (.tuple #[])).put Lk.m3.dst (.pointer (some ad))).put Lk.v3.dst (.pointer (some ad2)))) (by simp only[Lk.v3];exact eval_put (by simp only[put_size];omega))
  refine ⟨by rw[hc];exact acq_run ad2 W,?_⟩
  unfold Go.Conc.listed
  rw[hc]
  exact acq_ev ad2 W
noncomputable def unlockAt:UnlockAt PP 155 where
 sf:=Pz.f155
 fn:=Tryz.f155
 hs:=PP_s155
 hg:=PP_g155
 nt:=rfl
 rs:=by kernel_rfl
 rg:=by kernel_rfl
 i0:=_
 i1:=_
 i2:=_
 i3:=_
 i4:=_
 i5:=_
 i6:=_
 p0:=Uk.p0
 p1:=Uk.p1
 p2:=Uk.p2
 p3:=Uk.p3
 m1:=Uk.m1
 v1:=Uk.v1
 s1:=Uk.s1
 g1:=Uk.g1
 s2:=Uk.s2
 g2:=Uk.g2
 r0:=Uk.r0
 r1:=Uk.r1
 r2:=Uk.r2
 r3:=Uk.r3
 r4:=Uk.r4
 t0:=Uk.t0
 t1:=Uk.t1
 q0:=Uk.q0
 q1:=Uk.q1
 q2:=Uk.q2
 s6:=Uk.s6
 g6:=Uk.g6
 bs:=rfl
 bg:=Uk.great
 free:=free_of (by rfl)
 okS:=okS_of (by kernel_rfl)
 okG:=okG_of (by kernel_rfl)
 dst:=⟨rfl,rfl,rfl⟩
 mute:=by
  intro o ho
  simp only[List.mem_cons,List.not_mem_nil,or_false]at ho
  rcases ho with rfl|rfl|rfl<;>exact mute_of rfl
 dis:=fun a W=>⟨by kernel_rfl,by kernel_rfl⟩
 ena:=fun a W=>⟨by kernel_rfl,by kernel_rfl⟩
 vals:=unlock_vals
 slow:=slow_of rfl b200
 nt21:=by kernel_rfl
 rel:=by
  intro a hsz x4 x5 x6 x7 x8 x9 W1 W1' W2 W2' W3 W3' W4 W4' W5 W5' W6 W6' e1 e2 e3 e4 e5 e6
  obtain ⟨ad,h0⟩:=ptr0 (by omega) rfl rfl rfl rfl rfl e1 e2 e3
  have hm:x8=.pointer (some ad):=by
   simp only[execOp,Uk.m1,Sem.run_pure,Result.ok.injEq,Next.value.injEq]at e5
   rw[← e5.1]
   simp only[Uk.p3,Uk.p2,Uk.p1,Uk.p0]
   rw[eval_ne (by decide),eval_ne (by decide),eval_ne (by decide),eval_ne (by decide)]
   exact h0
  subst hm
  obtain ⟨ad2,rfl⟩:=conv_val (.inr rfl) (fun i hi=>by
   simp only[Uk.v1,Op.convert.injEq,Operand.tmp.injEq,true_and]at hi
   rw[← hi]
   simp only[Uk.m1]
   exact eval_put (by simp only[put_size];omega)) e6
  refine ⟨ad2,fun W=>?_⟩
  have hc:=mark_call (o:=Uk.g1) (f:=174) (i:=8) (ad:=ad2) rfl (a:=((((((a.put Uk.p0.dst x4).put Uk.p1.dst x5).put Uk.p2.dst x6).put Uk.p3.dst x7).put Uk.m1.dst (.pointer (some ad))).put Uk.v1.dst (.pointer (some ad2)))) (by simp only[Uk.v1];exact eval_put (by simp only[put_size];omega))
  refine ⟨by rw[hc];exact rel_run ad2 W,?_⟩
  unfold Go.Conc.listed
  rw[hc]
  exact rel_ev ad2 W
theorem PP_stubs:∀ f,isStub PP f→f=154∨f=155:=by
 rintro f ⟨sf,fn,x,y,h1,h2,h3,h4,_,_,hne⟩
 refine Classical.byContradiction fun hno=>?_
 have n1:f≠154:=fun e=>hno (.inl e)
 have n2:f≠155:=fun e=>hno (.inr e)
 have e:=PP_fs f
 rw[h2,h1,Option.map_some,Option.some.injEq]at e
 cases hb:isBar f with
 | true=>rw[pick_bar _ hb]at e;rw[e]at h3;cases h3
 | false =>
  rw[pick_same _ hb n1 n2]at e
  exact hne (by rw[h1,h2,e])
theorem PP_rdy (Γ:Nat→Prop):Rdy Γ PP:=⟨PP_fit,PP_self_fit,fun T=>block_of ⟨PP_fit,PP_self_fit⟩ lockAt unlockAt PP_stubs T⟩
end Go.Proofs.YtdianedehhecoaaGreatDoor.Co
/- The places of Host.Tick and of the wait group's code, named. -/
namespace Go.Proofs.YtdianedehhecoaaGreatDoor.Co
variable [Loops]
open Go.Conc (G)
def sq1:Code→Code
 | .seq x _=>x
 | c=>c
def sq2:Code→Code
 | .seq _ y=>y
 | c=>c
def blk:Code→Code
 | .block _ x=>x
 | c=>c
def lop:Code→Code
 | .loop x=>x
 | c=>c
def opsC:Code→Array Oper
 | .region _ ops _=>ops
 | _=>#[]
noncomputable def c34:Code:=Tryz.f34.body.getD .skip
noncomputable def e34:Code:=sq2 (sq2 (sq2 (sq2 (sq2 c34))))
noncomputable def l34:Code:=sq1 (sq2 (sq2 (sq2 (sq2 c34))))
noncomputable def x34:Code:=lop (blk (sq2 l34))
noncomputable def r8:Code:=sq2 (blk (sq1 (sq2 (sq2 x34))))
noncomputable def r9:Code:=sq2 (sq2 (sq2 x34))
noncomputable def ops8:Array Oper:=opsC r8
noncomputable def ops10:Array Oper:=opsC (sq1 e34)
noncomputable def k8 (k:List Item):List Item:=.inBlock 1 :: .code r9 :: .inLoop x34 :: .inBlock 0 :: .code e34 :: k
noncomputable def tm (h ms ch m ad f:Value)(wg:Nat)(n20 t21:Value)(t26 t27 t28:Value):Array Value :=
 #[h,ms,undef,undef,.int .i64 0,ch,.bool true,.pointer (some ⟨wg,0,none⟩),undef,m,.tuple #[ch,.bool true],h,ms,.tuple #[ch,.bool true],ch,.bool true,.bool true,.bool false,ch,.int .i64 1,n20,t21,ad,m,m,f,t26,t27,t28]
noncomputable def host8 (h ms ch m ad f:Value)(wg:Nat):Frame:=(Go.Conc.base 34).at ⟨tm h ms ch m ad f wg (.int .i64 0) (.bool true) undef undef undef,[]⟩ (.inRegion ops8 [2] :: k8 [])
noncomputable def host10 (h ms ch m ad f:Value)(wg:Nat):Frame:=(Go.Conc.base 34).at ⟨tm h ms ch m ad f wg (.int .i64 1) (.bool false) (.tuple #[]) (.int .i64 1) undef,[]⟩ (.inRegion ops10 [0] :: .code (sq2 e34) :: [])
noncomputable def f71:Frame:=Frame.enter Tryz.prog 71 #[] .normal
noncomputable def c71:Code:=Tryz.f71.body.getD .skip
noncomputable def ops71c:Array Oper:=opsC (sq2 (sq2 c71))
noncomputable def go71 (f:Value)(wg b1:Nat):Frame:=(Go.Conc.base 71).at ⟨#[.pointer (some ⟨wg,0,none⟩),f,.pointer (some ⟨b1,0,none⟩),.pointer (some ⟨b1+1,0,none⟩),.pointer (some ⟨wg,0,none⟩),.tuple #[],.func (.func 121) #[] #[.pointer (some ⟨b1,0,none⟩),.pointer (some ⟨b1+1,0,none⟩)]],[]⟩ (.inRegion ops71c [1] :: [])
end Go.Proofs.YtdianedehhecoaaGreatDoor.Co
/- Goroutine 0 from the go statement to its return from Wait: its three ways, reckoned. -/
namespace Go.Proofs.YtdianedehhecoaaGreatDoor.Co
variable [Loops]
open Go.Conc (G)
def pSt (wg:Nat):Value:=.pointer (some ⟨wg,0,none⟩)
def pSm (wg:Nat):Value:=.pointer (some ⟨wg,1,none⟩)
def u64 (n:Int):Value:=.int .u64 n
def unitV:Value:=.tuple #[]
def S2 (wg:Nat):List Sc:=[.q 43,.v 183 #[pSt wg] (u64 0),.q 35,.c 222 115 (pSt wg),.v 130 #[pSt wg] unitV,.q 20]
def S1 (wg:Nat):List Sc:=[.q 43,.v 183 #[pSt wg] (u64 4294967296),.q 48,.v 184 #[pSt wg,u64 4294967296,u64 4294967297] (.bool true),.q 19,.c 233 115 (pSm wg),.v 134 #[pSm wg] unitV,.q 23,.v 136 #[pSm wg,.bool false] unitV,.q 16,.v 183 #[pSt wg] (u64 0),.q 15,.c 222 115 (pSt wg),.v 130 #[pSt wg] unitV,.q 10]
def S3 (wg:Nat):List Sc:=[.q 43,.v 183 #[pSt wg] (u64 4294967296),.q 48,.v 184 #[pSt wg,u64 4294967296,u64 4294967297] (.bool false),.q 25,.v 183 #[pSt wg] (u64 0),.q 35,.c 222 115 (pSt wg),.v 130 #[pSt wg] unitV,.q 20]
section
variable (cs:List Frame) (h ms ch m ad f:Value) (wg b1:Nat)
noncomputable def mGo:Goroutine:=G (go71 f wg b1) (host8 h ms ch m ad f wg :: cs)
noncomputable def mA:Goroutine:=fin (mGo cs h ms ch m ad f wg b1) undef
noncomputable def mZ:Goroutine:=G ((host10 h ms ch m ad f wg).finish (.tuple #[])) cs
theorem scr2:∀ w,scr Tryz.prog true (S2 wg) (mA cs h ms ch m ad f wg b1) w=exS Tryz.prog true (S2 wg) (mA cs h ms ch m ad f wg b1) w:=by intro w;kernel_rfl
theorem ok2:okS Tryz.prog true (S2 wg) (mA cs h ms ch m ad f wg b1)=true:=by kernel_rfl
theorem df2:dfS Tryz.prog true (S2 wg) (mA cs h ms ch m ad f wg b1) 0=[1,1,0,0,0,0]:=by kernel_rfl
theorem end2:endS Tryz.prog true (S2 wg) (mA cs h ms ch m ad f wg b1)=mZ cs h ms ch m ad f wg:=by kernel_rfl
theorem scr1:∀ w,scr Tryz.prog true (S1 wg) (mA cs h ms ch m ad f wg b1) w=exS Tryz.prog true (S1 wg) (mA cs h ms ch m ad f wg b1) w:=by intro w;kernel_rfl
theorem ok1:okS Tryz.prog true (S1 wg) (mA cs h ms ch m ad f wg b1)=true:=by kernel_rfl
theorem df1:dfS Tryz.prog true (S1 wg) (mA cs h ms ch m ad f wg b1) 0=[1,1,1,1,1,1,1,1,1,1,1,0,0,0,0]:=by kernel_rfl
theorem end1:endS Tryz.prog true (S1 wg) (mA cs h ms ch m ad f wg b1)=mZ cs h ms ch m ad f wg:=by kernel_rfl
theorem scr3:∀ w,scr Tryz.prog true (S3 wg) (mA cs h ms ch m ad f wg b1) w=exS Tryz.prog true (S3 wg) (mA cs h ms ch m ad f wg b1) w:=by intro w;kernel_rfl
theorem ok3:okS Tryz.prog true (S3 wg) (mA cs h ms ch m ad f wg b1)=true:=by kernel_rfl
theorem df3:dfS Tryz.prog true (S3 wg) (mA cs h ms ch m ad f wg b1) 0=[1,1,1,1,1,1,0,0,0,0]:=by kernel_rfl
theorem end3:endS Tryz.prog true (S3 wg) (mA cs h ms ch m ad f wg b1)=mZ cs h ms ch m ad f wg:=by kernel_rfl
end
end Go.Proofs.YtdianedehhecoaaGreatDoor.Co
/- Goroutine 0 at the group: its points, by its three ways. -/
namespace Go.Proofs.YtdianedehhecoaaGreatDoor.Co
variable [Loops]
open Go.Conc (G)
theorem x183:Ext Tryz.prog 183 (Extern.Atomic.loadT (.int .u64)):=⟨Tryz.f183,by kernel_rfl,by kernel_rfl,by kernel_rfl,by kernel_rfl,by kernel_rfl⟩
theorem x184:Ext Tryz.prog 184 (Extern.Atomic.casT (.int .u64)):=⟨Tryz.f184,by kernel_rfl,by kernel_rfl,by kernel_rfl,by kernel_rfl,by kernel_rfl⟩
theorem x210:Ext Tryz.prog 210 (Extern.Atomic.update (Op.intArith .add) .u64 true):=⟨Tryz.f210,by kernel_rfl,by kernel_rfl,by kernel_rfl,by kernel_rfl,by kernel_rfl⟩
theorem x211:Ext Tryz.prog 211 Extern.Atomic.storeT:=⟨Tryz.f211,by kernel_rfl,by kernel_rfl,by kernel_rfl,by kernel_rfl,by kernel_rfl⟩
theorem x130:Ext Tryz.prog 130 (Extern.Race.marked .acquire):=⟨Tryz.f130,by kernel_rfl,by kernel_rfl,by kernel_rfl,by kernel_rfl,by kernel_rfl⟩
theorem x134:Ext Tryz.prog 134 (Extern.Race.marked .write):=⟨Tryz.f134,by kernel_rfl,by kernel_rfl,by kernel_rfl,by kernel_rfl,by kernel_rfl⟩
theorem x179:Ext Tryz.prog 179 (Extern.Race.marked .read):=⟨Tryz.f179,by kernel_rfl,by kernel_rfl,by kernel_rfl,by kernel_rfl,by kernel_rfl⟩
theorem x174:Ext Tryz.prog 174 (Extern.Race.marked .releaseMerge):=⟨Tryz.f174,by kernel_rfl,by kernel_rfl,by kernel_rfl,by kernel_rfl,by kernel_rfl⟩
theorem x136:Ext Tryz.prog 136 Extern.Sync.semacquire:=⟨Tryz.f136,by kernel_rfl,by kernel_rfl,by kernel_rfl,by kernel_rfl,by kernel_rfl⟩
theorem x181:Ext Tryz.prog 181 Extern.Sync.semrelease:=⟨Tryz.f181,by kernel_rfl,by kernel_rfl,by kernel_rfl,by kernel_rfl,by kernel_rfl⟩
theorem u222:Tryz.prog.underlying 222=some (.pointer 146):=by kernel_rfl
theorem u233:Tryz.prog.underlying 233=some (.pointer 128):=by kernel_rfl
theorem uUP:Tryz.prog.underlying 115=some .unsafePointer:=by kernel_rfl
theorem z146:(Tryz.prog.info? 146).map (fun i=>decide (i.size=0))=some false:=by kernel_rfl
theorem z128:(Tryz.prog.info? 128).map (fun i=>decide (i.size=0))=some false:=by kernel_rfl
section
variable {p:Program} {m:Bool} {S:List Sc} {g:Goroutine} {δ d:Nat} {ds:List Nat}
theorem df_q {n:Nat}(h:dfS p m (.q n :: S) g δ=d :: ds):deafL δ (trL p m n g)=d∧dfS p m S (lastG g (trL p m n g)) d=ds:=by
 simp only[dfS,List.cons.injEq]at h
 obtain ⟨rfl,h⟩:=h
 exact ⟨rfl,h⟩
theorem df_v {f:FuncId}{vs:Array Value}{r:Value}(h:dfS p m (.v f vs r :: S) g δ=d :: ds):dfS p m S (fin g r) δ=ds:=by
 simp only[dfS,List.cons.injEq]at h
 exact h.2
theorem df_c {s t:TypeId}{x:Value}(h:dfS p m (.c s t x :: S) g δ=d :: ds):dfS p m S (fin g x) δ=ds:=by
 simp only[dfS,List.cons.injEq]at h
 exact h.2
theorem df_l {t:TypeId}{x r:Value}(h:dfS p m (.l t x r :: S) g δ=d :: ds):dfS p m S (fin g r) δ=ds:=by
 simp only[dfS,List.cons.injEq]at h
 exact h.2
end
def Tq (p:Program)(m:Bool)(U:World→Prop)(X:Nat→Goroutine→Prop) (δ:Nat)(g:Goroutine):Prop:=∃ r,QTo p m U X r δ g
theorem Tq.quiet {p:Program}{m:Bool}{U:World→Prop}{X:Nat→Goroutine→Prop}{l:List (Goroutine × Array Event)}{g:Goroutine} {δ δ':Nat}(hq:Quiet p m g l)(hr:g.status=.running)(ho:okL l=true)(hd:deafL δ l=δ')(h:Tq p m U X δ' (lastG g l)):Tq p m U X δ g:=by
 obtain ⟨r,h⟩:=h
 subst hd
 exact ⟨_,qto_quiet l g δ hq hr ho h⟩
theorem Tq.one {p:Program}{m:Bool}{U:World→Prop}{X:Nat→Goroutine→Prop}{g g':Goroutine} {δ:Nat}(hr:g.status=.running)(hs:∀ w,U w→stepG p m g w=.go g' w #[])(h:Tq p m U X δ g'):Tq p m U X δ g:=by
 obtain ⟨r,h⟩:=h
 exact ⟨_,QTo.step hr (es:=#[]) (by simp) hs h⟩
theorem Tq.here {p:Program}{m:Bool}{U:World→Prop}{X:Nat→Goroutine→Prop}{g:Goroutine} {δ:Nat}(h:X δ g):Tq p m U X δ g:=⟨0,.here h⟩
theorem Wk.at.cst {k:Wk}{w:World}{st sm:Int}(h:k.at w st sm):w.cell? ⟨k.wg,0,none⟩=some (.int .u64 st)∧w.frozen? ⟨k.wg,0,none⟩=false:=⟨by simp [World.cell?,show w.heap[k.wg]? = _ from h],frozen_of_row w _ _ _ _ h⟩
theorem Wk.at.csm {k:Wk}{w:World}{st sm:Int}(h:k.at w st sm):w.cell? ⟨k.wg,1,none⟩=some (.int .u32 sm)∧w.frozen? ⟨k.wg,1,none⟩=false:=⟨by simp [World.cell?,show w.heap[k.wg]? = _ from h],frozen_of_row w _ _ _ _ h⟩
section
variable (cs:List Frame) (h ms ch m ad f:Value) (wg b1:Nat)
noncomputable def wk:Wk:=⟨Tryz.prog,146,wg,fun a=>∃ r,QTo Tryz.prog true (fun _=>True) (fun δ g=>δ=0∧g=mZ cs h ms ch m ad f wg) r 0 a⟩
variable {cs h ms ch m ad f wg}
theorem callOf_offers {g:Goroutine}{x:FuncId × Array Value}(h:callOf g=some x):g.offers=none:=by
 unfold callOf at h
 split at h
 ·assumption
 ·cases h
theorem acq_way {n r:Nat}{g:Goroutine}(hw:Way Tryz.prog true [.q n,.c 222 115 (pSt wg),.v 130 #[pSt wg] unitV,.q r] g)(hd:dfS Tryz.prog true [.q n,.c 222 115 (pSt wg),.v 130 #[pSt wg] unitV,.q r] g 1=[0,0,0,0])
  (he:endS Tryz.prog true [.q n,.c 222 115 (pSt wg),.v 130 #[pSt wg] unitV,.q r] g=mZ cs h ms ch m ad f wg):Tq Tryz.prog true (wk cs h ms ch m ad f wg).U (Acq (wk cs h ms ch m ad f wg)) 1 g:=by
 obtain ⟨r0,q0,o0,r1,c1,r2,c2,r3,q3,o3,r4⟩:=hw
 obtain ⟨d0,hd⟩:=df_q hd
 have hd:=df_v (df_c hd)
 obtain ⟨d3,_⟩:=df_q hd
 exact Tq.quiet q0 r0 o0 d0 (Tq.one r1 (fun w ⟨st,sm,hU⟩=>step_conv c1 u222 uUP z146 hU.cst.1) (Tq.here ⟨rfl,r2,_,fun w _=>step_markAt (fun _ _=>by simp) c2 x130,Tq.quiet q3 r3 o3 d3 (Tq.here ⟨rfl,he⟩)⟩))
theorem ld0_way {n r:Nat}{g:Goroutine}(hw:Way Tryz.prog true [.v 183 #[pSt wg] (u64 0),.q n,.c 222 115 (pSt wg),.v 130 #[pSt wg] unitV,.q r] g)(hd:dfS Tryz.prog true [.v 183 #[pSt wg] (u64 0),.q n,.c 222 115 (pSt wg),.v 130 #[pSt wg] unitV,.q r] g 1=[1,0,0,0,0])
  (he:endS Tryz.prog true [.v 183 #[pSt wg] (u64 0),.q n,.c 222 115 (pSt wg),.v 130 #[pSt wg] unitV,.q r] g=mZ cs h ms ch m ad f wg):Ld0 (wk cs h ms ch m ad f wg) 1 g:=by
 obtain ⟨r0,c0,hw⟩:=hw
 obtain ⟨r',hr'⟩:=acq_way hw (df_v hd) he
 exact ⟨rfl,r0,_,r',fun w hw=>step_load c0 x183 hw.cst.1,hr'⟩
theorem main_way:∃ r,MTo (wk cs h ms ch m ad f wg) (Ld (wk cs h ms ch m ad f wg)) r 0 (mA cs h ms ch m ad f wg b1):=by
 obtain ⟨a0,a1,a2,a3,a4,w2⟩:=way_of _ _ (scr2 cs h ms ch m ad f wg b1) (ok2 cs h ms ch m ad f wg b1)
 obtain ⟨_,_,_,_,_,b5,b6,b7,b8,b9,b10⟩:=way_of _ _ (scr1 cs h ms ch m ad f wg b1) (ok1 cs h ms ch m ad f wg b1)
 obtain ⟨_,_,_,_,_,_,_,_,_,_,w3⟩:=way_of _ _ (scr3 cs h ms ch m ad f wg b1) (ok3 cs h ms ch m ad f wg b1)
 obtain ⟨d0,e2⟩:=df_q (df2 cs h ms ch m ad f wg b1)
 have e2:=df_v e2
 obtain ⟨_,e1⟩:=df_q (df1 cs h ms ch m ad f wg b1)
 obtain ⟨d5,e1⟩:=df_q (df_v e1)
 obtain ⟨_,e3⟩:=df_q (df3 cs h ms ch m ad f wg b1)
 obtain ⟨_,e3⟩:=df_q (df_v e3)
 refine Tq.quiet a1 a0 a2 d0 (Tq.here ⟨rfl,a3,?_,?_⟩)
 ·have hC:Tq Tryz.prog true (wk cs h ms ch m ad f wg).U (Cas (wk cs h ms ch m ad f wg)) 1 (fin (lastG (mA cs h ms ch m ad f wg b1) (trL Tryz.prog true 43 (mA cs h ms ch m ad f wg b1))) (u64 4294967296)):=by
   refine Tq.quiet b6 b5 b7 d5 (Tq.here ⟨rfl,b8,?_,?_⟩)
   ·obtain ⟨c0,c1,c2,c3,c4,c5,c6,c7,c8,c9,c10,c11,c12,c13,c14,w1⟩:=b10
    obtain ⟨d6,e1⟩:=df_q (df_v e1)
    obtain ⟨d7,e1⟩:=df_q (df_v (df_c e1))
    obtain ⟨d8,e1⟩:=df_q (df_v e1)
    obtain ⟨r1,h1⟩:=Tq.quiet (U:=(wk cs h ms ch m ad f wg).U) c13 c12 c14 d8 (Tq.here (ld0_way w1 e1 (end1 cs h ms ch m ad f wg b1)))
    obtain ⟨r2,h2⟩:=Tq.quiet (U:=(wk cs h ms ch m ad f wg).U) (X:=Sma (wk cs h ms ch m ad f wg)) c8 c7 c9 d7 (Tq.here ⟨rfl,c10,callOf_offers c11,fun st w hw=>step_sem_wait c11 rfl x136 hw.csm.1,_,r1,fun w hw=>step_sem c11 rfl x136 hw.csm.1 (by decide) hw.csm.2,h1⟩)
    obtain ⟨r3,h3⟩:=Tq.quiet (U:=(wk cs h ms ch m ad f wg).U) (X:=Wr (wk cs h ms ch m ad f wg)) c1 c0 c2 d6 (Tq.one c3 (fun w ⟨st,sm,hU⟩=>step_conv c4 u233 uUP z128 hU.csm.1) (Tq.here ⟨rfl,c5,_,r2,fun w _=>step_markAt (fun _ _=>by simp) c6 x134,h2⟩))
    exact ⟨_,r3,fun w hw=>step_hit b9 x184 hw.cst.1 hw.cst.2,h3⟩
   ·obtain ⟨d6,e3⟩:=df_q (df_v e3)
    obtain ⟨c0,c1,c2,w3⟩:=w3
    obtain ⟨r1,h1⟩:=Tq.quiet (U:=(wk cs h ms ch m ad f wg).U) c1 c0 c2 d6 (Tq.here (ld0_way w3 e3 (end3 cs h ms ch m ad f wg b1)))
    exact ⟨_,r1,fun w hw=>step_miss b9 x184 hw.cst.1 hw.cst.2 (by decide),h1⟩
  obtain ⟨r',hr'⟩:=hC
  exact ⟨_,r',fun w hw=>step_load a4 x183 hw.cst.1,hr'⟩
 ·obtain ⟨r',hr'⟩:=acq_way w2 e2 (end2 cs h ms ch m ad f wg b1)
  exact ⟨_,r',fun w hw=>step_load a4 x183 hw.cst.1,hr'⟩
end
end Go.Proofs.YtdianedehhecoaaGreatDoor.Co
namespace Go.Proofs.YtdianedehhecoaaGreatDoor.Co
variable [Loops]
open Go.Conc (G)
noncomputable def wA (b1:Nat):Goroutine:=Go.Conc.born Tryz.prog { target:=.fn (.func 121) #[.pointer (some ⟨b1,0,none⟩),.pointer (some ⟨b1+1,0,none⟩)],args:=#[] }
theorem spawn_mGo (cs:List Frame)(h ms ch m ad f:Value)(wg b1:Nat)(w:World):stepG Tryz.prog true (mGo cs h ms ch m ad f wg b1) w=.spawn (mA cs h ms ch m ad f wg b1) (wA b1) w #[]:=by kernel_rfl
def pB (b1:Nat):Value:=.pointer (some ⟨b1,0,none⟩)
def W0 (b1:Nat)(m:Value):List Sc:=[.q 7,.l 1 (pB (b1+1)) (.func (.func 72) #[m] #[]),.q 1]
noncomputable def wE (b1:Nat)(m:Value):Goroutine:=endS Tryz.prog false (W0 b1 m) (wA b1)
noncomputable def wF (b1:Nat)(m:Value):Frame:=((wE b1 m).callers.head?).getD default
noncomputable def wB (b1:Nat)(m:Value):Frame:=((wE b1 m).callers.tail.head?).getD default
noncomputable def wT (b1:Nat)(m:Value):Goroutine:=G ((wF b1 m).finish (.tuple #[])) [wB b1 m]
section
variable (b1:Nat) (m:Value)
theorem scrW0:∀ w,scr Tryz.prog false (W0 b1 m) (wA b1) w=exS Tryz.prog false (W0 b1 m) (wA b1) w:=by intro w;kernel_rfl
theorem okW0:okS Tryz.prog false (W0 b1 m) (wA b1)=true:=by kernel_rfl
theorem dfW0:dfS Tryz.prog false (W0 b1 m) (wA b1) 0=[0,0,0]:=by kernel_rfl
theorem endW0:endS Tryz.prog false (W0 b1 m) (wA b1)=G (Frame.enter Tryz.prog 72 #[m] .normal) [wF b1 m,wB b1 m]:=by kernel_rfl
end
end Go.Proofs.YtdianedehhecoaaGreatDoor.Co
/- The worker from its return from Match.Tick to its end: its two ways, reckoned. -/
namespace Go.Proofs.YtdianedehhecoaaGreatDoor.Co
variable [Loops]
open Go.Conc (G QuitsD)
def dn:Value:=.int .u64 18446744069414584320
def W2 (wg b1:Nat):List Sc:=[.q 17,.l 222 (pB b1) (pSt wg),.q 15,.c 222 115 (pSt wg),.v 174 #[pSt wg] unitV,.q 38,.v 210 #[pSt wg,dn] (u64 0)]
def W1 (wg b1:Nat):List Sc:=[.q 17,.l 222 (pB b1) (pSt wg),.q 15,.c 222 115 (pSt wg),.v 174 #[pSt wg] unitV,.q 38,.v 210 #[pSt wg,dn] (u64 1),.q 103,.v 183 #[pSt wg] (u64 1),.q 20,.v 211 #[pSt wg,u64 0] unitV,.q 27,.v 181 #[pSm wg,.bool false,.int .i64 0] unitV]
def okQ:List (Goroutine × Array Event)→Bool
 | []=>false
 | [(g,es)]=>(match g.status with|.finished=>true|_=>false) && es.all Event.mute
 | (g,es) :: l=>(match g.status with|.running=>true|_=>false) && es.all Event.mute && okQ l
theorem quits_of {p:Program}:∀ (l:List (Goroutine × Array Event))(g:Goroutine) (δ:Nat),Quiet p false g l→g.status=.running→okQ l=true→deafL δ l=0→QuitsD p l.length δ g:=by
 intro l
 induction l with
 | nil=>intro g δ _ _ h;cases h
 | cons x l ih =>
  obtain ⟨g',es⟩:=x
  intro g δ hq hr hok hd
  cases l with
  | nil =>
   simp only[okQ,Bool.and_eq_true]at hok
   refine .inr ⟨hr,g',es,fun e he=>Array.all_eq_true'.1 hok.2 e he,hq.1,?_,hd⟩
   revert hok
   cases g'.status<;>simp
  | cons y l =>
   simp only[okQ,Bool.and_eq_true]at hok
   refine .inr ⟨hr,g',es,fun e he=>Array.all_eq_true'.1 hok.1.2 e he,hq.1,ih g' _ hq.2 ?_ hok.2 hd⟩
   have:=hok.1.1
   revert this
   cases g'.status<;>simp
theorem quits_tr {p:Program}{n:Nat}{g:Goroutine} {δ:Nat}(h:∀ w,tr p false n g w=some ((trL p false n g).map fun x=>(x.1,w,x.2)))(hr:g.status=.running)(hok:okQ (trL p false n g)=true)(hd:deafL δ (trL p false n g)=0):∃ q,QuitsD p q δ g:=⟨_,quits_of _ g δ (quiet_of_tr n g _ h) hr hok hd⟩
theorem mayWake_ext {p:Program}{g:Goroutine}{f:FuncId}{vs:Array Value}{e:Array Value→Sem Value}(h:callOf g=some (f,vs))(hE:Ext p f e):mayWake p g=true:=by
 obtain ⟨b,a,ops,i,rest,k,cs,o,xs,ats,hg,ho,hgd,hk,hop,hvs,hfin⟩:=callOf_form h
 obtain ⟨fn,h1,h2,h3,h4,h5⟩:=hE.ex
 rw[hg]
 have h3':fn.body=none:=by simpa using h3
 simp[mayWake,G,Frame.at,ho,hop,Frame.eval,h1,h3']
section
variable (wg b1:Nat) (m:Value)
noncomputable def wQ2:Goroutine:=endS Tryz.prog false (W2 wg b1) (wT b1 m)
noncomputable def wQ1:Goroutine:=endS Tryz.prog false (W1 wg b1) (wT b1 m)
theorem scrW2:∀ w,scr Tryz.prog false (W2 wg b1) (wT b1 m) w=exS Tryz.prog false (W2 wg b1) (wT b1 m) w:=by intro w;kernel_rfl
theorem okW2:okS Tryz.prog false (W2 wg b1) (wT b1 m)=true:=by kernel_rfl
theorem dfW2:dfS Tryz.prog false (W2 wg b1) (wT b1 m) 0=[0,0,0,0,0,1,1]:=by kernel_rfl
theorem trW2:∀ w,tr Tryz.prog false 97 (wQ2 wg b1 m) w=some ((trL Tryz.prog false 97 (wQ2 wg b1 m)).map fun x=>(x.1,w,x.2)):=by intro w;kernel_rfl
theorem oqW2:okQ (trL Tryz.prog false 97 (wQ2 wg b1 m))=true:=by kernel_rfl
theorem dqW2:deafL 1 (trL Tryz.prog false 97 (wQ2 wg b1 m))=0:=by kernel_rfl
theorem scrW1:∀ w,scr Tryz.prog false (W1 wg b1) (wT b1 m) w=exS Tryz.prog false (W1 wg b1) (wT b1 m) w:=by intro w;kernel_rfl
theorem okW1:okS Tryz.prog false (W1 wg b1) (wT b1 m)=true:=by kernel_rfl
theorem dfW1:dfS Tryz.prog false (W1 wg b1) (wT b1 m) 0=[0,0,0,0,0,1,1,1,1,1,1,1,1]:=by kernel_rfl
theorem trW1:∀ w,tr Tryz.prog false 27 (wQ1 wg b1 m) w=some ((trL Tryz.prog false 27 (wQ1 wg b1 m)).map fun x=>(x.1,w,x.2)):=by intro w;kernel_rfl
theorem oqW1:okQ (trL Tryz.prog false 27 (wQ1 wg b1 m))=true:=by kernel_rfl
theorem dqW1:deafL 1 (trL Tryz.prog false 27 (wQ1 wg b1 m))=0:=by kernel_rfl
end
end Go.Proofs.YtdianedehhecoaaGreatDoor.Co
/- The worker at the group: its points, by its two ways; its loads. THE TICK: from the go statement to the return from Wait. -/
namespace Go.Proofs.YtdianedehhecoaaGreatDoor.Co
variable [Loops]
open Go.Conc (G QuitsD listed stepG_value)
theorem agg222 (w:World):(isAgg 222).run Tryz.prog w=.ok false w:=by kernel_rfl
theorem agg1 (w:World):(isAgg 1).run Tryz.prog w=.ok false w:=by kernel_rfl
theorem eagg222 (w:World):(isAgg 222).events Tryz.prog w #[]=#[]:=by kernel_rfl
theorem eagg1 (w:World):(isAgg 1).events Tryz.prog w #[]=#[]:=by kernel_rfl
theorem step_loadv {p:Program}{mn:Bool}{g:Goroutine}{w:World}{t:TypeId}{ad:Addr}{v:Value}(h:loadOf g=some (t,.pointer (some ad)))(hA:(isAgg t).run p w=.ok false w)(hE:(isAgg t).events p w #[]=#[])(hc:w.cell? ad=some v):∃ ev,stepG p mn g w=.go (fin g v) w ev∧∀ e∈ev,e=⟨.cell ad,false,false⟩:=by
 unfold loadOf at h
 split at h
 ·rename_i o ho
  split at h
  ·rename_i t' x hop
   simp only[Option.some.injEq,Prod.mk.injEq]at h
   obtain ⟨rfl,hx⟩:=h
   obtain ⟨b,a,ops,i,rest,k,cs,hg,hoi,hgd,hk,hev,hfin⟩:=operOf_form ho
   rw[hev]at hx
   have hr:(execOp a.eval o).run p w=.ok (.value v) w:=by
    simp[execOp,hop,hx,Instr.loadAt,Instr.sureAddr,loadVar,hA,hc,Result.andThen]
   refine ⟨_,by rw[hfin,hg,stepG_value hoi (by unfold Region.wanted;rw[hgd]) hk hr],fun e he=>?_⟩
   have hes:(execOp a.eval o).events p w #[]=#[⟨.cell ad,false,false⟩]:=by
    simp[execOp,hop,hx,Instr.loadAt,Instr.sureAddr,loadVar,hA,hE,hc,Result.evThen]
   unfold listed at he
   rw[hes]at he
   have:=ev_sub2 (p:=p) (f:=b.fn) (es:=#[⟨.cell ad,false,false⟩]) e (by simpa using he)
   simpa using this
  ·cases h
 ·cases h
section
variable {k:Wk} {wg b1:Nat} {mv:Value} {g:Goroutine}
theorem endS_q {p:Program}{m:Bool}{n:Nat}{S:List Sc}{g:Goroutine}:endS p m (.q n :: S) g=endS p m S (lastG g (trL p m n g)):=rfl
theorem endS_l {p:Program}{m:Bool}{t:TypeId}{x r:Value}{S:List Sc}{g:Goroutine}:endS p m (.l t x r :: S) g=endS p m S (fin g r):=rfl
def uV (wg:Nat):List Sc:=[.v 181 #[pSm wg,.bool false,.int .i64 0] unitV]
def uS (wg:Nat):List Sc:=.v 211 #[pSt wg,u64 0] unitV :: .q 27 :: uV wg
def uL (wg:Nat):List Sc:=.v 183 #[pSt wg] (u64 1) :: .q 20 :: uS wg
def uA1 (wg:Nat):List Sc:=.v 210 #[pSt wg,dn] (u64 1) :: .q 103 :: uL wg
def uA0 (wg:Nat):List Sc:=[.v 210 #[pSt wg,dn] (u64 0)]
def uR1 (wg:Nat):List Sc:=.v 174 #[pSt wg] unitV :: .q 38 :: uA1 wg
def uR0 (wg:Nat):List Sc:=.v 174 #[pSt wg] unitV :: .q 38 :: uA0 wg
def uC1 (wg:Nat):List Sc:=.q 15 :: .c 222 115 (pSt wg) :: uR1 wg
def uC0 (wg:Nat):List Sc:=.q 15 :: .c 222 115 (pSt wg) :: uR0 wg
theorem zv_way (hk:k.p=Tryz.prog)(hw:Way Tryz.prog false (uV k.wg) g)(hq:∃ q,QuitsD Tryz.prog q 1 (endS Tryz.prog false (uV k.wg) g)):ZV k 1 g:=by
 obtain ⟨r,c,_⟩:=hw
 obtain ⟨q,hq⟩:=hq
 refine ⟨rfl,r,by rw[hk];exact mayWake_ext c x181,_,q,fun w hw=>?_,by rw[hk];exact hq⟩
 rw[hk]
 exact step_semrel c rfl x181 hw.csm.1 hw.csm.2
theorem zs_way (hk:k.p=Tryz.prog)(hw:Way Tryz.prog false (uS k.wg) g)(hd:dfS Tryz.prog false (uS k.wg) g 1=[1,1,1])(hq:∃ q,QuitsD Tryz.prog q 1 (endS Tryz.prog false (uS k.wg) g)):ZS k 1 g:=by
 obtain ⟨r,c,r1,q1,o1,hw⟩:=hw
 obtain ⟨d,_⟩:=df_q (df_v hd)
 obtain ⟨r',h'⟩:Tq k.p false k.U (ZV k) 1 _:=Tq.quiet (by rw[hk];exact q1) r1 o1 d (Tq.here (zv_way hk hw hq))
 refine ⟨rfl,r,_,r',fun w hw=>?_,h'⟩
 rw[hk]
 exact step_store c x211 hw.cst.1 hw.cst.2
theorem zl_way (hk:k.p=Tryz.prog)(hw:Way Tryz.prog false (uL k.wg) g)(hd:dfS Tryz.prog false (uL k.wg) g 1=[1,1,1,1,1])(hq:∃ q,QuitsD Tryz.prog q 1 (endS Tryz.prog false (uL k.wg) g)):ZL k 1 g:=by
 obtain ⟨r,c,r1,q1,o1,hw⟩:=hw
 obtain ⟨d,hd⟩:=df_q (df_v hd)
 obtain ⟨r',h'⟩:Tq k.p false k.U (ZS k) 1 _:=Tq.quiet (by rw[hk];exact q1) r1 o1 d (Tq.here (zs_way hk hw hd hq))
 refine ⟨rfl,r,_,r',fun w hw=>?_,h'⟩
 rw[hk]
 exact step_load c x183 hw.cst.1
theorem wrap0:IntKind.u64.wrap (KK+18446744069414584320)=0:=by decide
theorem wrap1:IntKind.u64.wrap (KK+1+18446744069414584320)=1:=by decide
theorem za_way (hk:k.p=Tryz.prog)(hw1:Way Tryz.prog false (uA1 k.wg) g)(hw0:Way Tryz.prog false (uA0 k.wg) g)(hd:dfS Tryz.prog false (uA1 k.wg) g 1=[1,1,1,1,1,1,1])(hq1:∃ q,QuitsD Tryz.prog q 1 (endS Tryz.prog false (uA1 k.wg) g))(hq0:∃ q,QuitsD Tryz.prog q 1 (endS Tryz.prog false (uA0 k.wg) g)):ZA k 1 g:=by
 obtain ⟨r,c,r1,q1,o1,hw⟩:=hw1
 obtain ⟨d,hd⟩:=df_q (df_v hd)
 obtain ⟨r',h'⟩:Tq k.p false k.U (ZL k) 1 _:=Tq.quiet (by rw[hk];exact q1) r1 o1 d (Tq.here (zl_way hk hw hd hq1))
 obtain ⟨q0,hq0⟩:=hq0
 refine ⟨rfl,r,⟨_,q0,fun w hw=>?_,by rw[hk];exact hq0⟩,_,r',fun w hw=>?_,h'⟩
 ·rw[hk]
  have:=step_add (p:=Tryz.prog) (m:=false) c x210 hw.cst.1 hw.cst.2
  rw[wrap0]at this
  exact this
 ·rw[hk]
  have:=step_add (p:=Tryz.prog) (m:=false) c x210 hw.cst.1 hw.cst.2
  rw[wrap1]at this
  exact this
theorem zr_way (hk:k.p=Tryz.prog)(hw1:Way Tryz.prog false (uR1 k.wg) g)(hw0:Way Tryz.prog false (uR0 k.wg) g)(hd:dfS Tryz.prog false (uR1 k.wg) g 0=[0,1,1,1,1,1,1,1,1])(hq1:∃ q,QuitsD Tryz.prog q 1 (endS Tryz.prog false (uR1 k.wg) g))(hq0:∃ q,QuitsD Tryz.prog q 1 (endS Tryz.prog false (uR0 k.wg) g)):ZR k 0 g:=by
 obtain ⟨r,c,r1,q1,o1,hw1⟩:=hw1
 obtain ⟨_,_,_,_,_,hw0⟩:=hw0
 obtain ⟨d,hd⟩:=df_q (df_v hd)
 obtain ⟨r',h'⟩:Tq k.p false k.U (ZA k) 0 _:=Tq.quiet (by rw[hk];exact q1) r1 o1 d (Tq.here (za_way hk hw1 hw0 hd hq1 hq0))
 refine ⟨rfl,r,_,r',fun w hw=>?_,h'⟩
 rw[hk]
 exact step_markAt (fun _ _=>by simp) c x174
theorem zc_way (hk:k.p=Tryz.prog)(hw1:Way Tryz.prog false (uC1 k.wg) g)(hw0:Way Tryz.prog false (uC0 k.wg) g)(hd:dfS Tryz.prog false (uC1 k.wg) g 0=[0,0,0,1,1,1,1,1,1,1,1])(hq1:∃ q,QuitsD Tryz.prog q 1 (endS Tryz.prog false (uC1 k.wg) g))(hq0:∃ q,QuitsD Tryz.prog q 1 (endS Tryz.prog false (uC0 k.wg) g)):Tq k.p false k.U (ZR k) 0 g:=by
 obtain ⟨r,q,o,r1,c,hw1⟩:=hw1
 obtain ⟨_,_,_,_,_,hw0⟩:=hw0
 obtain ⟨d,hd⟩:=df_q hd
 refine Tq.quiet (by rw[hk];exact q) r o d (Tq.one r1 (fun w ⟨st,sm,hU⟩=>?_) (Tq.here (zr_way hk hw1 hw0 (df_c hd) hq1 hq0)))
 rw[hk]
 exact step_conv c u222 uUP z146 hU.cst.1
theorem way_end:∀ (S:List Sc)(g:Goroutine),Way Tryz.prog false S g→(endS Tryz.prog false S g).status=.running:=by
 intro S
 induction S with
 | nil=>intro g h;exact h
 | cons s S ih =>
  intro g h
  cases s with
  | q n=>exact ih _ h.2.2.2
  | v=>exact ih _ h.2.2
  | c=>exact ih _ h.2.2
  | l=>exact ih _ h.2.2
theorem work_way (hk:k.p=Tryz.prog)(b1:Nat)(mv:Value):Tq k.p false k.U (ZR k) 0 (fin (lastG (wT b1 mv) (trL Tryz.prog false 17 (wT b1 mv))) (pSt k.wg)):=by
 have w2:=way_of _ _ (scrW2 k.wg b1 mv) (okW2 k.wg b1 mv)
 have w1:=way_of _ _ (scrW1 k.wg b1 mv) (okW1 k.wg b1 mv)
 have q1:=quits_tr (δ:=1) (trW1 k.wg b1 mv) (way_end _ _ w1) (oqW1 k.wg b1 mv) (dqW1 k.wg b1 mv)
 have q2:=quits_tr (δ:=1) (trW2 k.wg b1 mv) (way_end _ _ w2) (oqW2 k.wg b1 mv) (dqW2 k.wg b1 mv)
 unfold wQ1 W1 at q1
 unfold wQ2 W2 at q2
 rw[endS_q,endS_l]at q1 q2
 obtain ⟨_,_,_,_,_,w2⟩:=w2
 obtain ⟨_,_,_,_,_,w1⟩:=w1
 obtain ⟨_,e1⟩:=df_q (dfW1 k.wg b1 mv)
 exact zc_way hk w1 w2 (df_l e1) q1 q2
end
end Go.Proofs.YtdianedehhecoaaGreatDoor.Co
/- THE TICK: from the go statement to goroutine 0's return from Wait, one worker, by the worker's lone contract. -/
namespace Go.Proofs.YtdianedehhecoaaGreatDoor.Co
variable [Loops]
open Go.Conc (G QuitsD)
section
variable {Γ D:Nat→Prop} {P:Two} {k:Wk} {n:Nat} {V:World→Prop}
theorem main_to {p:Program}(hpp:p=P.g){X:Nat→Goroutine→Prop} {r δ:Nat}{a:Goroutine}(h:QTo p true (fun _=>True) X r δ a):∀ c:Conf,MainD Γ P δ a c→Leads P.g c fun c'=>∃ δ' a',X δ' a'∧MainD Γ P δ' a' c'∧∀ u,Gh Γ u c.w→Gh Γ u c'.w:=by
 subst hpp
 induction h with
 | here h=>exact fun c hM=>Leads.refl ⟨_,_,h,hM,fun u hu=>hu⟩
 | @step r δ g g' es h1 h2 h3 _ ih =>
  intro c hM
  refine (any_turnD (X:=fun x W=>x=g'∧∀ u,Gh Γ u c.w→Gh Γ u W) h1 c (fun d=>⟨g',c.w.at d,es,h3 _ trivial,fun e he x hx=>(by rw[touch_none_mute (h2 e he)]at hx;cases hx),rfl,rfl,fun u hu=>hu.at d⟩) hM).trans ?_
  rintro c1 ⟨a',hM1,⟨rfl,hg⟩,_⟩
  exact (ih c1 hM1).mono fun c2 ⟨δ',a',q1,q2,q3⟩=>⟨δ',a',q1,q2,fun u hu=>q3 u (hg u hu)⟩
theorem work_to (hp:Post Γ D P k n V){X:Nat→Goroutine→Prop} {r δ:Nat}{b:Goroutine}(h:QTo k.p false k.U X r δ b):∀ c:Conf,WAt Γ D P k n V δ b c→Leads P.g c fun c'=>∃ δ' b',X δ' b'∧WAt Γ D P k n V δ' b' c'∧∀ u,Gh Γ u c.w→Gh Γ u c'.w:=by
 rw[hp.prog]at h
 induction h with
 | here h=>exact fun c hM=>Leads.refl ⟨_,_,h,hM,fun u hu=>hu⟩
 | @step r δ g g' es h1 h2 h3 _ ih =>
  intro c hM
  refine (work_turn hp (X:=fun x W=>x=g'∧∀ u,Gh Γ u c.w→Gh Γ u W) c h1 hM (fun w hw _ hU=>⟨g',w,es,h3 _ hU,fun e he=>mute_mild (h2 e he),rfl,fun _ _=>rfl,rfl,hw⟩)).trans ?_
  rintro c1 ⟨a',hM1,rfl,hg⟩
  exact (ih c1 hM1).mono fun c2 ⟨δ',a',q1,q2,q3⟩=>⟨δ',a',q1,q2,fun u hu=>q3 u (hg u hu)⟩
theorem work_load (hp:Post Γ D P k n V){b:Goroutine}{t:TypeId}{ad:Addr}{v:Value}(hb:b.status=.running)(h:loadOf b=some (t,.pointer (some ad)))(hA:∀ w,(isAgg t).run k.p w=.ok false w)(hE:∀ w,(isAgg t).events k.p w #[]=#[])(hD:¬ D ad.block)(hc:∀ w,V w→w.cell? ad=some v) :
  ∀ c:Conf,WAt Γ D P k n V 0 b c→Leads P.g c fun c'=>WAt Γ D P k n V 0 (fin b v) c'∧∀ u,Gh Γ u c.w→Gh Γ u c'.w:=by
 intro c hM
 refine (work_turn hp (δ':=0) (X:=fun x W=>x=fin b v∧∀ u,Gh Γ u c.w→Gh Γ u W) c hb hM (fun w hw hV hU=>?_)).mono fun c' ⟨b',q1,e,q2⟩=>⟨e▸q1,q2⟩
 obtain ⟨ev,e1,e2⟩:=step_loadv (mn:=false) h (hA w) (hE w) (hc w hV)
 rw[hp.prog]at e1
 refine ⟨_,w,ev,e1,fun e he=>.inl ?_,Go.Conc.deafBehind_still (fun e he=>?_) 0,fun _ _=>rfl,rfl,hw⟩
 ·rw[e2 e he]
  exact hD
 ·rw[e2 e he]
  exact ⟨(by intro x;cases x),(by intro x;cases x)⟩
end
section
variable {Γ D:Nat→Prop} {P:Two} {k:Wk} {n:Nat} {V:World→Prop}
theorem work_ql (hp:Post Γ D P k n V)(hk:k.p=Tryz.prog){i:Nat}{t:TypeId}{ad:Addr}{r:Value}{S:List Sc}{ds:List Nat}{g:Goroutine}(hw:Way Tryz.prog false (.q i :: .l t (.pointer (some ad)) r :: S) g)(hd:dfS Tryz.prog false (.q i :: .l t (.pointer (some ad)) r :: S) g 0=0 :: ds)
  (hA:∀ w,(isAgg t).run Tryz.prog w=.ok false w)(hE:∀ w,(isAgg t).events Tryz.prog w #[]=#[])(hD:¬ D ad.block)(hc:∀ w,V w→w.cell? ad=some r) :
  ∀ c:Conf,WAt Γ D P k n V 0 g c→Leads P.g c fun c'=>WAt Γ D P k n V 0 (fin (lastG g (trL Tryz.prog false i g)) r) c'∧∀ u,Gh Γ u c.w→Gh Γ u c'.w:=by
 intro c hW
 obtain ⟨a0,a1,a2,a3,a4,_⟩:=hw
 obtain ⟨d0,_⟩:=df_q hd
 obtain ⟨r1,t1⟩:Tq k.p false k.U (fun δ x=>δ=0∧x=lastG g (trL Tryz.prog false i g)) 0 g:=Tq.quiet (by rw[hk];exact a1) a0 a2 d0 (Tq.here ⟨rfl,rfl⟩)
 refine (work_to hp t1 c hW).trans ?_
 rintro c2 ⟨_,_,⟨rfl,rfl⟩,hW2,hg2⟩
 exact (work_load hp (v:=r) a3 a4 (by rw[hk];exact hA) (by rw[hk];exact hE) hD hc c2 hW2).mono fun c3 ⟨h1,h2⟩=>⟨h1,fun u hu=>h2 u (hg2 u hu)⟩
theorem work_qlq (hp:Post Γ D P k n V)(hk:k.p=Tryz.prog){i i':Nat}{t:TypeId}{ad:Addr}{r:Value}{g gE:Goroutine}(hw:Way Tryz.prog false [.q i,.l t (.pointer (some ad)) r,.q i'] g)(hd:dfS Tryz.prog false [.q i,.l t (.pointer (some ad)) r,.q i'] g 0=[0,0,0])(he:endS Tryz.prog false [.q i,.l t (.pointer (some ad)) r,.q i'] g=gE)
  (hA:∀ w,(isAgg t).run Tryz.prog w=.ok false w)(hE:∀ w,(isAgg t).events Tryz.prog w #[]=#[])(hD:¬ D ad.block)(hc:∀ w,V w→w.cell? ad=some r) :
  ∀ c:Conf,WAt Γ D P k n V 0 g c→Leads P.g c fun c'=>WAt Γ D P k n V 0 gE c'∧∀ u,Gh Γ u c.w→Gh Γ u c'.w:=by
 intro c hW
 refine (work_ql hp hk hw hd hA hE hD hc c hW).trans ?_
 rintro c2 ⟨hW2,hg2⟩
 obtain ⟨_,_,_,_,_,a5,a6,a7,_⟩:=hw
 obtain ⟨_,hd⟩:=df_q hd
 obtain ⟨d2,_⟩:=df_q (df_l hd)
 obtain ⟨r1,t1⟩:Tq k.p false k.U (fun δ x=>δ=0∧x=gE) 0 _:=Tq.quiet (by rw[hk];exact a6) a5 a7 d2 (Tq.here ⟨rfl,he⟩)
 refine (work_to hp t1 c2 hW2).mono ?_
 rintro c3 ⟨_,_,⟨rfl,rfl⟩,hW3,hg3⟩
 exact ⟨hW3,fun u hu=>hg3 u (hg2 u hu)⟩
end
def grown (Γ:Nat→Prop)(wg b1:Nat):Nat→Prop:=fun j=>Γ j∨j=wg∨j=b1∨j=b1+1
def boxes (wg b1:Nat)(f:Value)(w:World):Prop:=w.heap[b1]? = some (.cells #[pSt wg] 222 (0,0))∧w.heap[b1+1]? = some (.cells #[f] 1 (0,0))
theorem wk_p {cs:List Frame}{h ms ch m ad f:Value}{wg:Nat}:(wk cs h ms ch m ad f wg).p=Tryz.prog:=rfl
theorem tick_core {Γ:Nat→Prop}{cs:List Frame}{h ms ch m ad mv:Value}{wg b1:Nat}{c:Conf}{w:World}{R:(Nat→Question→Nat)→Nat→Ending→World→Prop}
  (hM:MainD Γ PP 0 (mGo cs h ms ch m ad (.func (.func 72) #[mv] #[]) wg b1) c)(hk:(wk cs h ms ch m ad (.func (.func 72) #[mv] #[]) wg).at c.w KK 0)(hV:boxes wg b1 (.func (.func 72) #[mv] #[]) c.w)(hn1:wg≠b1)(hn2:wg≠b1+1)(hG1:¬ Γ b1)(hG2:¬ Γ (b1+1))
  (hg:Gh (grown Γ wg b1) w c.w)(hR:∀ t d e w',R t d e w'→e=.returned (.tuple #[]))(hC:∀ t d,Calls PP.s 72 #[mv] (re w t d) (R t d)) :
  Leads PP.g c fun c'=>∃ w',(∃ t d t' d',R t d (.returned (.tuple #[])) (re w' t' d'))∧Main (grown Γ wg b1) PP (mZ cs h ms ch m ad (.func (.func 72) #[mv] #[]) wg) c'∧Gh (grown Γ wg b1) w' c'.w:=by
 obtain ⟨r,hr⟩:=main_way (b1:=b1) (cs:=cs) (h:=h) (ms:=ms) (ch:=ch) (m:=m) (ad:=ad) (f:=.func (.func 72) #[mv] #[]) (wg:=wg)
 refine fork_leads (D:=fun j=>Γ j∨j=wg) (V:=boxes wg b1 (.func (.func 72) #[mv] #[])) rfl rfl hM wk_p (fun j hj=>.inl hj) (fun d=>spawn_mGo _ _ _ _ _ _ _ _ _ _) hk (fun d=>hV) hr (grown Γ wg b1) fun n c1 hn hw1 hW=>?_
 obtain ⟨d1,hw1⟩:=hw1
 have hg1:Gh (grown Γ wg b1) w c1.w:=by rw[hw1];exact hg.at d1
 have hp:Post (grown Γ wg b1) (fun j=>Γ j∨j=wg) PP (wk cs h ms ch m ad (.func (.func 72) #[mv] #[]) wg) n (boxes wg b1 (.func (.func 72) #[mv] #[])):={
  prog:=rfl
  pos:=hn
  ghost:=.inr (.inl rfl)
  shun:=.inr rfl
  sub:=fun j hj=>hj.elim .inl fun e=>.inr (.inl e)
  keep:=fun w w' hk hv=>⟨by rw[hk _ (.inr (.inr (.inl rfl))) (Ne.symm hn1)];exact hv.1,by rw[hk _ (.inr (.inr (.inr rfl))) (Ne.symm hn2)];exact hv.2⟩ }
 refine (work_qlq hp wk_p (way_of _ _ (scrW0 b1 mv) (okW0 b1 mv)) (dfW0 b1 mv) (endW0 b1 mv) agg1 eagg1 (fun x=>x.elim hG2 (fun e=>hn2 e.symm)) (fun w hv=>by simp[World.cell?,hv.2]) c1 hW).trans ?_
 rintro c4 ⟨hW4,hg4⟩
 have hg4':=hg4 _ hg1
 refine (calls_leads (workTeam hp) (PP_rdy _) (f:=72) (by kernel_rfl) (fun t d e w' hr=>⟨_,hR t d e w' hr⟩) hC c4 hW4 hg4').trans ?_
 rintro c5 ⟨v,w',⟨t,d,t',d',hRR⟩,hW5,hg5⟩
 obtain rfl:v=.tuple #[]:=by have:=hR _ _ _ _ hRR;cases this;rfl
 refine (work_ql hp wk_p (way_of _ _ (scrW2 wg b1 mv) (okW2 wg b1 mv)) (dfW2 wg b1 mv) agg222 eagg222 (fun x=>x.elim hG1 (fun e=>hn1 e.symm)) (fun w hv=>by simp[World.cell?,hv.1]) c5 hW5).trans ?_
 rintro c7 ⟨hW7,hg7⟩
 obtain ⟨r4,t4⟩:=work_way (k:=wk cs h ms ch m ad (.func (.func 72) #[mv] #[]) wg) wk_p b1 mv
 refine (work_ends hp hW7 t4).trans ?_
 rintro c8 ⟨a',⟨r5,hEnd⟩,hM8,hg8,_⟩
 refine (main_to (P:=PP) PP_g.symm hEnd c8 hM8).mono ?_
 rintro c9 ⟨_,_,⟨rfl,rfl⟩,hM9,hg9⟩
 exact ⟨w',⟨t,d,t',d',hRR⟩,hM9,hg9 _ (hg8 _ (hg7 _ hg5))⟩
end Go.Proofs.YtdianedehhecoaaGreatDoor.Co