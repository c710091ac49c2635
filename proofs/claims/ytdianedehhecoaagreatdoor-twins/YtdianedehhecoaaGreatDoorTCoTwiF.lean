/- Twins: the row and the card. -/
import Derived.Test.YtdianedehhecoaaGreatDoorTCoH
import Derived.Test.YtdianedehhecoaaGreatDoorTLaidRow
import Derived.Test.YtdianedehhecoaaGreatDoorCards
import Derived.Test.YtdianedehhecoaaGreatDoorTie
import Derived.Carry
import Derived.SevenTiedAt
set_option linter.unusedVariables false
set_option linter.unusedSimpArgs false
set_option maxRecDepth 100000
namespace Go.Proofs.YtdianedehhecoaaGreatDoor.Co
open Go.ChangeShapes Go.WideShapes Go.ChangeAt Go.RowKit
theorem sameOf {W W':World}(h:∀ k,k<W.heap.size→W'.heap[k]? = W.heap[k]?){p:MemPlace}(hp:p.block<W.heap.size):W.sameAt W' p:=by
 cases p with
 | cell b o=>exact World.cell?_of_block (w:=W) (h b hp)
 | map b=>exact h b hp
theorem keptOf {W W':World}(h:∀ k,k<W.heap.size→W'.heap[k]? = W.heap[k]?)(ho:W'.os=W.os)(hu:W'.output=W.output)(may:MemPlace→Prop):W.keptBut W' may:=by
 refine ⟨ho,hu,fun i hi=>?_⟩
 rw[h i hi]
 split<;>simp_all
section
variable {H:Type} {enc:TypeId × Value→H}
theorem witnessCalm {C:Checked}{os:Os}{f:FuncId}{fn:Func}{s:ChangeSpec}{conds:List PathCond}{apart:Bool}{X:World→Array Value→Prop}(w0:World)(args:Array Value)(fuel:Nat)(hos:w0.os=os)
  (hsh:(w0.forCall (fun _ _=>0) ⟨#[],args,[]⟩).Shaped C.prog)
  (hok:Input.okWideB C.prog (w0.forCall (fun _ _=>0) ⟨#[],args,[]⟩) f ⟨#[],args,[]⟩=true)
  (hpre:s.preB enc C.prog fn conds apart (w0.forCall (fun _ _=>0) ⟨#[],args,[]⟩).memory args fuel=true)
  (hsz:s.sizedB enc C.prog fn apart (w0.forCall (fun _ _=>0) ⟨#[],args,[]⟩).memory args fuel=true)
  (hx:X (w0.forCall (fun _ _=>0) ⟨#[],args,[]⟩).memory args) :
  ∃ (w:World) (tape:Tape) (i:Input),w.os=os∧(w.forCall tape i).Shaped C.prog∧i.vars=[]∧Input.okWide C.prog (w.forCall tape i) .any w.heap.size f i ∧
   ((s.pre enc C.prog fn conds apart (w.forCall tape i).memory i.args∧X (w.forCall tape i).memory i.args)∧sizedMet enc C.prog fn (OpenSpec.ofChange s) apart (w.forCall tape i).memory i.args)∧({ calm:=true }:Assume).holds C.prog (lone (Frame.enter C.prog f i.args .normal) [] (w.forCall tape i)) :=
 ⟨w0,fun _ _=>0,⟨#[],args,[]⟩,hos,hsh,(Input.okWide_of_okWideB (base:=0) hok).1,(Input.okWide_of_okWideB hok).2,⟨⟨ChangeSpec.pre_of_preB hpre,hx⟩,sizedMet_of_sizedB hsz⟩,by
  simp only[Assume.holds]
  exact ⟨by simp,fun _ _ _ _=>rfl,by simp,by simp,by simp⟩⟩
end
theorem own8:ownKnob Tryz.prog.godebug=none:=by kernel_rfl
theorem twins_lifted (os:Os)(started:os.Started)(H:Type)(enc:TypeId × Value→H)(F:Stop.Interp) :
  ReturnsInLeavingWide { calm:=true } Tryz.checked os 8 .any (fun w args=>(Rows.twinsSpec.pre enc Tryz.prog Tryz.f8 [] false w args∧laidMetH Tryz.prog laid4 w)∧sizedMet enc Tryz.prog Tryz.f8 (OpenSpec.ofChange Rows.twinsSpec) false w args)
   ((OpenSpec.ofChange Rows.twinsSpec).postWith enc Tryz.prog Tryz.f8 F (outsideKept [.timePasses]) false true false):=by
 refine leaving_of_good (C:=Tryz.checked) (X:=fun w _=>laidMetH Tryz.prog laid4 w) (fun _ _ _ hh h=>h.of_heap hh) own8 started (by kernel_rfl) Tryz.func8
  (witnessCalm (enc:=enc) (C:=Tryz.checked) (os:=os) (X:=fun w _=>laidMetH Tryz.prog laid4 w) (World.doorLaid Tryz.prog 41 os) #[.int .i64 0,.int .i64 0,.int .i64 0,.slice none 0 0,.slice none 0 0] 8 rfl (World.shaped_of_RefB (by kernel_rfl) (by kernel_rfl)) (by kernel_rfl) (by kernel_rfl) (by kernel_rfl) (door_met os _)) ?_
 intro W base args ds gs before hval0 hW hsz0 hL
 have hval:∀ (j:Nat) t v,Tryz.f8.params[j]? = some t→args[j]? = some v→Value.okWide Tryz.prog W .any base t v:=hval0
 have hsz:(DataW.weightsEach Tryz.prog (Tryz.f8.params.toList++Rows.twinsSpec.plain.varTypes Tryz.prog) (ds++gs)).all (·≤reachBytes)=true:=hsz0
 have hW':=hW
 obtain ⟨p,q,hA0,hV,rfl,hfz,hnd⟩:=hW
 have hA:DataW.TrodAll enc Tryz.prog W 0 (fun _=>true) true Tryz.f8.params.toList args.toList ds p:=hA0
 rw[Tryz.params8]at hA hval hsz
 obtain ⟨v0,vs0,d0,ds0,p0,q0,hargs,rfl,rfl,h0,r0⟩:=trodAll_cons hA
 obtain ⟨v1,vs1,d1,ds1,p1,q1,rfl,rfl,rfl,h1,r1⟩:=trodAll_cons r0
 obtain ⟨v2,vs2,d2,ds2,p2,q2,rfl,rfl,rfl,h2,r2⟩:=trodAll_cons r1
 obtain ⟨v3,vs3,d3,ds3,p3,q3,rfl,rfl,rfl,h3,r3⟩:=trodAll_cons r2
 obtain ⟨v4,vs4,d4,ds4,p4,q4,rfl,rfl,rfl,h4,r4⟩:=trodAll_cons r3
 obtain ⟨rfl,rfl,rfl⟩:=trodAll_nil r4
 obtain rfl:args=#[v0,v1,v2,v3,v4]:=by cases args;simp_all
 obtain ⟨rfl,rfl⟩:=trodVars_none hV
 have k3:=h3
 have k4:=h4
 have lt3:∀ x∈p3,x.block<W.heap.size:=fun x hx=>hW'.lt x (by simp[hx])
 have lt4:∀ x∈p4,x.block<W.heap.size:=fun x hx=>hW'.lt x (by simp[hx])
 obtain ⟨a0,rfl,rfl,rfl,w0⟩:=open_int Tryz.underlying3 (hval 0 3 v0 rfl rfl) h0
 obtain ⟨a1,rfl,rfl,rfl,w1⟩:=open_int Tryz.underlying3 (hval 1 3 v1 rfl rfl) h1
 obtain ⟨a2,rfl,rfl,rfl,w2⟩:=open_int Tryz.underlying3 (hval 2 3 v2 rfl rfl) h2
 obtain ⟨ta,tl,tc,rfl⟩:=okWide_slice (e:=3) (show Tryz.prog.underlying 25=some (.slice 3) by kernel_rfl) (hval 3 25 v3 rfl rfl)
 obtain ⟨fuel,hf⟩:=h3
 obtain ⟨L,hT,hl1⟩:=nums_open (e:=3) (show Tryz.prog.underlying 25=some (.slice 3) by kernel_rfl) Tryz.underlying3 (by kernel_rfl) (by kernel_rfl) hf
  (fun n hn=>by simpa using List.all_eq_true.1 hsz n (DataW.weights_mem_each (j:=3) (t:=25) (d:=d3) rfl rfl n hn))
 obtain ⟨ua,ul,uc,rfl⟩:=okWide_slice (e:=3) (show Tryz.prog.underlying 25=some (.slice 3) by kernel_rfl) (hval 4 25 v4 rfl rfl)
 obtain ⟨fuel2,hf2⟩:=h4
 obtain ⟨K,hT2,hl2⟩:=nums_open (e:=3) (show Tryz.prog.underlying 25=some (.slice 3) by kernel_rfl) Tryz.underlying3 (by kernel_rfl) (by kernel_rfl) hf2
  (fun n hn=>by simpa using List.all_eq_true.1 hsz n (DataW.weights_mem_each (j:=4) (t:=25) (d:=d4) rfl rfl n hn))
 obtain ⟨hC,hD⟩:=of_laid hL
 have b0:=(Lit.wf_int_iff .i64 _).1 w0
 have b1:=(Lit.wf_int_iff .i64 _).1 w1
 have b2:=(Lit.wf_int_iff .i64 _).1 w2
 clear hA0 hval0 hsz0 hsz
 obtain ⟨N,last,o,W',t',g1,g2,g3,hgood⟩:=twins_good W a0 a1 a2 hT hl1 hT2 hl2 b0.1 b0.2 b1.1 b1.2 b2.1 b2.2 hC hD
 refine ⟨N,last,o,W',t',g1,g2,g3,hgood.mono fun v hv=>?_⟩
 obtain ⟨Γ,w',⟨rfl,hleft⟩,hgh⟩:=hv
 letI:=loopsOf W
 have hk:=old_kept hgh fun j hj=>hleft.block j (by rw[calmedSize];exact hj) (by omega)
 have hos:W'.os=W.os:=hgh.os.trans hleft.os
 have hout:W'.output=W.output:=hgh.output.trans hleft.output
 exact ⟨⟨_,_,_,[],_,[],hW',trodAll_mk1 (shut_bool Tryz.underlying4 _),(trodAll_cons_mk (shut_int Tryz.underlying3 w0) (trodAll_cons_mk (shut_int Tryz.underlying3 w1) (trodAll_cons_mk (shut_int Tryz.underlying3 w2) (trodAll_cons_mk (WideElems.Trod_stays laidOut (by kernel_rfl) (of_decide_eq_true (by kernel_rfl)) k3 (fun x hx=>sameOf hk (lt3 x hx)) (fun x hx=>by simpa using lt3 x hx)) (trodAll_cons_mk (WideElems.Trod_stays laidOut (by kernel_rfl) (of_decide_eq_true (by kernel_rfl)) k4 (fun x hx=>sameOf hk (lt4 x hx)) (fun x hx=>by simpa using lt4 x hx)) trodAll_mk0))))),rfl,keptOf hk hos hout _,fun h=>by cases h⟩,hos⟩
theorem tiedGoes (Lk:Looks){p:Pinned}{s:OpenSpec}{c:OpenClaim}(kinds:List LaidKind)(tests:Bool)(har:Bool × String)(lk g:Bool)(hc:c.holds p s)(hw:c.wfByText s=true)(htie:c.laidByTextAt Lk p kinds tests)
  (hst:c.start=.entering)(hnb:c.noBlocks=false∧c.again=false)(hm:p.checked.prog.mainIs=some (har.1,har.2.toList))(hn:(!har.1 && har.2.isEmpty && !lk)=false)
  (hl:∀ f fn,p.checked.prog.funcNamed c.func=some f→p.checked.prog.funcs[f]? = some fn→lk=p.checked.prog.looks []∧∀ (j:Nat) t,fn.params[j]? = some t→p.checked.prog.wantsStandIn t=false)
  (hg:g=c.goesBy p.checked.prog) :
  Claim7.holds p (.plain s) { stood:={ row:=c,standIns:=[],harness:=har,looks:=lk },kinds:=[],alts:=[],goes:=g,laidByText:=true,laidKinds:=kinds,laidTests:=tests,laidLooks:=Lk }:=by
 have h6:Claim7.isSixth { stood:={ row:=c,standIns:=[],harness:=har,looks:=lk },kinds:=[] }=false:=by simpa [Claim7.isSixth] using hn
 have h1:Claim7.holdsOne p (.plain s) { stood:={ row:=c,standIns:=[],harness:=har,looks:=lk },kinds:=[],alts:=[],laidByText:=true,laidKinds:=kinds,laidTests:=tests,laidLooks:=Lk }:=Claim7.tied_new_at Lk kinds tests (Claim7.new_of_sixth hc har lk hst hnb hm h6 hl) hw
 exact ⟨(Claim7.holdsOne_goes p (.plain s) _ g).2 h1,(fun D hD=>by cases hD),htie,(fun h=>by cases h),hg⟩
theorem twins_row:Rows.TwinsSaid :=
 OpenClaim.holds_of_wide_leaving_time 8 Tryz.f8 rfl rfl rfl rfl rfl rfl rfl ⟨rfl,rfl,rfl,rfl,rfl⟩ rfl rfl rfl rfl rfl (by kernel_rfl) Tryz.func8 (by kernel_rfl)
  (of_decide_eq_true (by kernel_rfl)) (by unfold Func.isWrapper;first|(rw[if_pos (by decide +kernel)];kernel_rfl)|(rw[if_neg (by decide +kernel)];exact ⟨rfl,rfl⟩))
  (fun os started H enc _ F=>twins_lifted os started H enc F)
theorem twins_card:Rows.TwinsCardSaid :=
  tiedGoes .later [.data,.data,.data,.data] true Rows.twinsCard.stood.harness false true
    twins_row (by kernel_rfl) twins_row_tie rfl ⟨rfl,rfl⟩ (by kernel_rfl) rfl
    (fun f fn hf hfn=>by
      obtain rfl : f = 8 := Option.some.inj ((show Tryz.prog.funcNamed "garrison/garrisonkeep.Twins" = some 8 by kernel_rfl).symm.trans hf) |>.symm
      obtain rfl:fn=Tryz.f8:=(Option.some.inj (Tryz.func8.symm.trans hfn)).symm
      exact ⟨by kernel_rfl,fun j t ht=>by
        rw[Tryz.params8]at ht
        have hm:t∈[3,3,3,25,25]:=by simpa using Array.mem_of_getElem? ht
        have hall:([3,3,3,25,25].all fun u=>!Tryz.prog.wantsStandIn u)=true:=by kernel_rfl
        exact (show Tryz.prog.wantsStandIn t=false by simpa using List.all_eq_true.1 hall t hm)⟩)
    (by kernel_rfl)
#print axioms twins_card
end Go.Proofs.YtdianedehhecoaaGreatDoor.Co