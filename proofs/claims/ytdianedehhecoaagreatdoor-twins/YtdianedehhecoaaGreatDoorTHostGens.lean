/- The host's calls of any of its matches. -/
import Derived.Test.YtdianedehhecoaaGreatDoorTHostLooks
import Derived.Test.YtdianedehhecoaaGreatDoorTMatchNews
set_option linter.unusedVariables false
set_option linter.unusedSimpArgs false
set_option maxHeartbeats 4000000
set_option maxRecDepth 20000
namespace Go.Proofs.YtdianedehhecoaaGreatDoor
open Go.RowKit
structure HRm (w:World)(hbk rb m mb:Nat):Prop where
 host:w.cell? ⟨hbk,1,none⟩=some (.slice (some ⟨rb,0,none⟩) 8 8)
 room:w.cell? ⟨rb,m,none⟩=some (.pointer (some ⟨mb,0,none⟩))
 lt:m<8
theorem HRm.on {w w':World}{hbk rb m mb:Nat}(h:HRm w hbk rb m mb)(h1:w'.heap[hbk]? = w.heap[hbk]?)(h2:w'.heap[rb]? = w.heap[rb]?):HRm w' hbk rb m mb :=
 ⟨(World.cell?_of_block (w:=w) h1).trans h.host,(World.cell?_of_block (w:=w) h2).trans h.room,h.lt⟩
theorem HRm.below {w w':World}{hbk rb m mb:Nat}(h:HRm w hbk rb m mb)(hb:Below w.heap.size w w'):HRm w' hbk rb m mb :=
 h.on (hb.block _ (cell_lt h.host)) (hb.block _ (cell_lt h.room))
section
variable {w:World} {hbk rb m mb:Nat} {xs:List Value}
theorem find_at (hh:HRm w hbk rb m mb)(hm:BlkAt w mb xs 136)(hl:xs.length=7) :
  Calls Pz.prog 43 #[.pointer (some ⟨hbk,0,none⟩),.int .i64 m] w fun e w'=>e=.returned (.pointer (some ⟨mb,0,none⟩))∧w'=w:=by
 have h1:w.cell? ⟨hbk,1,none⟩=some (.slice (some ⟨rb,0,none⟩) 8 8):=hh.host
 have h2:w.cell? ⟨rb,m,none⟩=some (.pointer (some ⟨mb,0,none⟩)):=hh.room
 have hm8:=hh.lt
 have hmi:(m:Int)<8:=by omega
 have HL:=(show Hid _ from pload_any rb m mb xs w h2 hm hl)
 clear hh hm hl h2
 go_enter Pz.func43,Tryz.ntmps43
 go_wp2_with (first|(go_at_call 88;refine Calls.mono HL.out ?_;rintro e w' ⟨rfl,rfl⟩))
 go_ret
 exact ⟨rfl,rfl⟩
theorem hsubmit_gen {s b:ByteArray}{q:Int}{Q:Int→World→Prop}(hh:HRm w hbk rb m mb)(hm:BlkAt w mb xs 136)(hl:xs.length=7)(hL:Calls Pz.prog 104 #[.pointer (some ⟨mb,0,none⟩),.string s,.int .i64 q,.string b] w fun e w'=>∃ x,e=.returned (.int .i64 x)∧Q x w') :
  Calls Pz.prog 58 #[.pointer (some ⟨hbk,0,none⟩),.int .i64 m,.string s,.int .i64 q,.string b] w fun e w'=>∃ x,e=.returned (.int .i64 x)∧Q x w':=by
 have HF:=(show Hid _ from find_at hh hm hl)
 have HJ:=(show Hid _ from hL)
 clear hh hm hl hL
 go_enter Pz.func58,Tryz.ntmps58
 go_wp2_with (first|(go_at_call 43;refine Calls.mono HF.out ?_;rintro e w' ⟨rfl,rfl⟩)|(go_at_call 104;refine Calls.mono HJ.out ?_;rintro e w' ⟨x,rfl,hq⟩))
 go_ret
 exact ⟨x,rfl,hq⟩
theorem hstate_gen {s:ByteArray}{Q:World→Prop}(hh:HRm w hbk rb m mb)(hm:BlkAt w mb xs 136)(hl:xs.length=7)(hL:Calls Pz.prog 45 #[.pointer (some ⟨mb,0,none⟩)] w fun e w'=>e=.returned (.string s)∧Q w') :
  Calls Pz.prog 19 #[.pointer (some ⟨hbk,0,none⟩),.int .i64 m] w fun e w'=>e=.returned (.tuple #[.string s,.int .i64 0])∧Q w':=by
 have HF:=(show Hid _ from find_at hh hm hl)
 have HJ:=(show Hid _ from hL)
 clear hh hm hl hL
 go_enter Pz.func19,Tryz.ntmps19
 go_wp2_with (first|(go_at_call 43;refine Calls.mono HF.out ?_;rintro e w' ⟨rfl,rfl⟩)|(go_at_call 45;refine Calls.mono HJ.out ?_;rintro e w' ⟨rfl,hq⟩))
 go_ret2
 exact ⟨rfl,hq⟩
theorem hhash_gen {s:ByteArray}{k x:Int}{Q:World→Prop}(hh:HRm w hbk rb m mb)(hm:BlkAt w mb xs 136)(hl:xs.length=7)(hL:Calls Pz.prog 44 #[.pointer (some ⟨mb,0,none⟩),.int .i64 k] w fun e w'=>e=.returned (.tuple #[.string s,.int .i64 x])∧Q w') :
  Calls Pz.prog 18 #[.pointer (some ⟨hbk,0,none⟩),.int .i64 m,.int .i64 k] w fun e w'=>e=.returned (.tuple #[.string s,.int .i64 x])∧Q w':=by
 have HF:=(show Hid _ from find_at hh hm hl)
 have HJ:=(show Hid _ from hL)
 clear hh hm hl hL
 go_enter Pz.func18,Tryz.ntmps18
 go_wp2_with (first|(go_at_call 43;refine Calls.mono HF.out ?_;rintro e w' ⟨rfl,rfl⟩)|(go_at_call 44;refine Calls.mono HJ.out ?_;rintro e w' ⟨rfl,hq⟩))
 go_ret2
 exact ⟨rfl,hq⟩
theorem hjoin_gen {s:ByteArray}{n x:Int}{Q:World→Prop}(hh:HRm w hbk rb m mb)(hm:BlkAt w mb xs 136)(hl:xs.length=7)(hL:Calls Pz.prog 69 #[.pointer (some ⟨mb,0,none⟩),.string s] w fun e w'=>e=.returned (.tuple #[.int .i64 n,.int .i64 x])∧Q w') :
  Calls Pz.prog 33 #[.pointer (some ⟨hbk,0,none⟩),.int .i64 m,.string s] w fun e w'=>e=.returned (.tuple #[.int .i64 n,.int .i64 x])∧Q w':=by
 have HF:=(show Hid _ from find_at hh hm hl)
 have HJ:=(show Hid _ from hL)
 clear hh hm hl hL
 go_enter Pz.func33,Tryz.ntmps33
 go_wp2_with (first|(go_at_call 43;refine Calls.mono HF.out ?_;rintro e w' ⟨rfl,rfl⟩)|(go_at_call 69;refine Calls.mono HJ.out ?_;rintro e w' ⟨rfl,hq⟩))
 go_ret2
 exact ⟨rfl,hq⟩
theorem hlook_at {ph pl tn wa wn:Int}{pa:Bool}(hh:HRm w hbk rb m mb)(hm:BlkAt w mb xs 136)(hl:xs.length=7)
  (hL:Calls Pz.prog 46 #[.pointer (some ⟨mb,0,none⟩)] (w.alloc (.cells #[.int .i64 0,.bool false,.int .i64 0,.int .i64 0,.int .i64 0,.int .i64 0] 46)) fun e w'=>e=.returned (.agg #[.int .i64 ph,.bool pa,.int .i64 pl,.int .i64 tn,.int .i64 wa,.int .i64 wn])∧Below (w.alloc (.cells #[.int .i64 0,.bool false,.int .i64 0,.int .i64 0,.int .i64 0,.int .i64 0] 46)).heap.size (w.alloc (.cells #[.int .i64 0,.bool false,.int .i64 0,.int .i64 0,.int .i64 0,.int .i64 0] 46)) w') :
  Calls Pz.prog 20 #[.pointer (some ⟨hbk,0,none⟩),.int .i64 m] w fun e w'=>e=.returned (.tuple #[.agg #[.int .i64 ph,.bool pa,.int .i64 pl,.int .i64 tn,.int .i64 wa,.int .i64 wn],.int .i64 0])∧Below w.heap.size w w':=by
 have hB0:Below w.heap.size w (w.alloc (.cells #[.int .i64 0,.bool false,.int .i64 0,.int .i64 0,.int .i64 0,.int .i64 0] 46)):=(Below.refl _ _).alloc (Nat.le_refl _) _
 have hH1:HRm (w.alloc (.cells #[.int .i64 0,.bool false,.int .i64 0,.int .i64 0,.int .i64 0,.int .i64 0] 46)) hbk rb m mb:=hh.below hB0
 have hR1:=BlkAt.new w viewZ 46
 have HF:=(show Hid _ from find_at hH1 (hm.alloc _) hl)
 have HL:Hid (Calls Pz.prog 46 #[.pointer (some ⟨mb,0,none⟩)] (w.alloc (.cells #[.int .i64 0,.bool false,.int .i64 0,.int .i64 0,.int .i64 0,.int .i64 0] 46)) fun e w'=>e=.returned (.agg #[.int .i64 ph,.bool pa,.int .i64 pl,.int .i64 tn,.int .i64 wa,.int .i64 wn])∧ViewAt w' w.heap.size∧Hid (BlkAt w' w.heap.size viewZ 46∧Below w.heap.size w w')):=hL.mono fun e w' ⟨he,hb⟩=>by
  have hv:BlkAt w' w.heap.size viewZ 46:=hR1.same (hb.block _ (by simp))
  exact ⟨he,hv.view,hv,hB0.trans (hb.mono (by simp))⟩
 have HR1:Hid (BlkAt (w.alloc (.cells #[.int .i64 0,.bool false,.int .i64 0,.int .i64 0,.int .i64 0,.int .i64 0] 46)) w.heap.size viewZ 46):=hR1
 have hs1:w.heap.size<(w.alloc (.cells #[.int .i64 0,.bool false,.int .i64 0,.int .i64 0,.int .i64 0,.int .i64 0] 46)).heap.size:=by simp
 clear hh hm hl hL hB0 hH1 hR1
 go_enter Pz.func20,Tryz.ntmps20
 go_wp2_with (first|(go_at_call 43;refine Calls.mono HF.out ?_;rintro e w' ⟨rfl,rfl⟩)|(go_at_call 46;refine Calls.mono HL.out ?_;rintro e w2 ⟨rfl,⟨v0,v1,v2,v3,v4,v5,f0,f1,f2,f3,f4,f5,vl⟩,hq⟩))
 obtain ⟨g1,g3⟩:=hq.out
 have hz6:BlkAt ((((((w2.setCell ⟨w.heap.size,0,none⟩ (.int .i64 ph)).setCell ⟨w.heap.size,1,none⟩ (.bool pa)).setCell ⟨w.heap.size,2,none⟩ (.int .i64 pl)).setCell ⟨w.heap.size,3,none⟩ (.int .i64 tn)).setCell ⟨w.heap.size,4,none⟩ (.int .i64 wa)).setCell ⟨w.heap.size,5,none⟩ (.int .i64 wn)) w.heap.size [.int .i64 ph,.bool pa,.int .i64 pl,.int .i64 tn,.int .i64 wa,.int .i64 wn] 46:=(((((g1.set 0 _).set 1 _).set 2 _).set 3 _).set 4 _).set 5 _
 have hzb:=(((((g3.setCell (p:=⟨w.heap.size,0,none⟩) (Nat.le_refl _) (.int .i64 ph)).setCell (p:=⟨w.heap.size,1,none⟩) (Nat.le_refl _) (.bool pa)).setCell (p:=⟨w.heap.size,2,none⟩) (Nat.le_refl _) (.int .i64 pl)).setCell (p:=⟨w.heap.size,3,none⟩) (Nat.le_refl _) (.int .i64 tn)).setCell (p:=⟨w.heap.size,4,none⟩) (Nat.le_refl _) (.int .i64 wa)).setCell (p:=⟨w.heap.size,5,none⟩) (Nat.le_refl _) (.int .i64 wn)
 generalize ((((((w2.setCell ⟨w.heap.size,0,none⟩ (.int .i64 ph)).setCell ⟨w.heap.size,1,none⟩ (.bool pa)).setCell ⟨w.heap.size,2,none⟩ (.int .i64 pl)).setCell ⟨w.heap.size,3,none⟩ (.int .i64 tn)).setCell ⟨w.heap.size,4,none⟩ (.int .i64 wa)).setCell ⟨w.heap.size,5,none⟩ (.int .i64 wn))=wz at *
 refine bodyPost_ret (v:=.tuple #[.agg #[.int .i64 ph,.bool pa,.int .i64 pl,.int .i64 tn,.int .i64 wa,.int .i64 wn],.int .i64 0]) ?_ rfl ⟨rfl,hzb⟩
 rw[results_cell_tmp (p:=4) (u:=5) (ty:=46) rfl]
 have hl:=run_loadVar_row (P:=Pz.prog) wz w.heap.size 46 46 ([.int .i64 ph,.bool pa,.int .i64 pl,.int .i64 tn,.int .i64 wa,.int .i64 wn]:List Value).toArray (0,0) _ hz6 ((Pz.gUnderlying 46).trans Tryz.underlying46) rfl (by kernel_rfl)
 show (Result.ok (⟨w.heap.size,0,none⟩:Addr) wz).andThen _=_
 rw[Result.andThen_ok,hl]
 rfl
theorem choose_at {nb ncap:Nat}(hh:HRm w hbk rb m mb)(hm:BlkAt w mb xs 136)(hl:xs.length=7)(hn:w.cell? ⟨nb,0,none⟩=some (.int .i64 m)) :
  Calls Pz.prog 70 #[.pointer (some ⟨hbk,0,none⟩),.slice (some ⟨nb,0,none⟩) 1 ncap] w fun e w'=>∃ ch,e=.returned (.tuple #[ch,.bool true])∧Chosen w mb ch w':=by
 have HF:=(show Hid _ from find_at hh hm hl)
 have HC:=(show Hid _ from containsM_nil (.pointer (some ⟨mb,0,none⟩)) w)
 clear hh hm hl
 go_enter Pz.func70,Tryz.ntmps70
 go_wp2_with fail
 go_loopw [6,17] (fun sv iv wr=>(iv=.int .i64 0∧sv=.slice none 0 0∧wr=w)∨(iv=.int .i64 1∧Chosen w mb sv wr)) (fun _ iv _=>1-(intOf iv).toNat)
 case atStart=>exact .inl ⟨rfl,rfl,rfl⟩
 case round =>
  rcases hrel with ⟨rfl,rfl,rfl⟩|⟨rfl,hC⟩
  ·go_wp2_with (first|(go_at_call 43;refine Calls.mono HF.out ?_;rintro e w' ⟨rfl,rfl⟩)|(go_at_call 119;refine Calls.mono HC.out ?_;rintro e w' ⟨rfl,rfl⟩))
   exact ⟨.inr ⟨rfl,chosen_of _ _ _ _⟩,by simp[intOf]⟩
  ·go_wp2_with fail
   go_ret2
   exact ⟨_,rfl,hC⟩
end
end Go.Proofs.YtdianedehhecoaaGreatDoor
/- A host makes a match beside others: Create. -/
namespace Go.Proofs.YtdianedehhecoaaGreatDoor
open Go.RowKit
def roomsV (ms:List Nat):List Value:=(ms.map fun b=>.pointer (some ⟨b,0,none⟩))++List.replicate (8-ms.length) (.pointer none)
theorem roomsV_at (ms:List Nat){i b:Nat}(h:ms[i]? = some b):(roomsV ms)[i]? = some (.pointer (some ⟨b,0,none⟩)):=by
 have hi:i<ms.length:=(List.getElem?_eq_some_iff.1 h).1
 unfold roomsV
 rw[List.getElem?_append_left (by simpa using hi),List.getElem?_map,h]
 rfl
theorem roomsV_free (ms:List Nat)(h:ms.length<8):(roomsV ms)[ms.length]? = some (.pointer none):=by
 unfold roomsV
 rw[List.getElem?_append_right (by simp),List.length_map,Nat.sub_self,List.getElem?_replicate,if_pos (by omega)]
theorem roomsV_set (ms:List Nat)(b:Nat)(h:ms.length<8):(roomsV ms).set ms.length (.pointer (some ⟨b,0,none⟩))=roomsV (ms++[b]):=by
 unfold roomsV
 obtain ⟨k,hk⟩:∃ k,8-ms.length=k+1:=⟨7-ms.length,by omega⟩
 have hk2:8-(ms++[b]).length=k:=by simp;omega
 rw[hk,hk2,List.set_append_right _ _ (by simp)]
 simp[List.replicate_succ]
def HAtK (w:World)(lo hbk rb:Nat)(ms:List Nat)(sd:Int)(P n:Nat):Prop :=
 ∃ lo' mb sb hb cap tb gv uv bs g pbs,pbs.length=n∧lo≤lo'∧hbk<lo'∧rb<lo'∧lo'≤w.heap.size∧MParts w 0 lo' mb sd P sb hb cap tb gv uv bs g pbs∧BlkAt w hbk (hostV (ms.length+1:Nat) rb) 120∧BlkAt w rb (roomsV (ms++[mb])) 125
def CreateSaidK (w:World)(lo hbk rb:Nat)(ms:List Nat)(sd:Int)(P:Nat)(e:Ending)(w':World):Prop :=
 e=.returned (.tuple #[.int .i64 ms.length,.int .i64 0])∧HAtK w' w.heap.size hbk rb ms sd P 0∧Below lo w w'∧Keep (fun k=>k=hbk∨k=rb) w w'
theorem hcreate_at {w w0:World}{lo hbk rb:Nat}{ms:List Nat}(hms:ms.length<8)(sd:Int)(P:Nat)(hh:BlkAt w hbk (hostV ms.length rb) 120)(hr:BlkAt w rb (roomsV ms) 125)(hne:hbk≠rb)
  (p2:2≤P)(p4:P≤4)(s0:0≤sd)(s1:sd≤999)(hb0:Below lo w0 w)(hC:∀ W,Below lo w0 W→Corners W∧W.cell? ⟨4,15,none⟩=some (.int .u8 4))(l1:lo≤hbk)(l2:lo≤rb) :
  Calls Pz.prog 32 #[.pointer (some ⟨hbk,0,none⟩),.int .i64 sd,.int .i64 P] w (CreateSaidK w lo hbk rb ms sd P):=by
 have hmay:mayB sd P=true:=by unfold mayB;rw[decide_eq_true_eq];omega
 have HM:Hid (∀ W,Calls Pz.prog 36 #[.int .i64 sd,.int .i64 P] W fun e w'=>e=.returned (.bool true)∧w'=W):=fun W=>by have:=MayBegin_any sd P W;rw[hmay]at this;exact this
 have hfree:=roomsV_free ms hms
 have HSet:Hid (∀ b,(roomsV ms).set ms.length (.pointer (some ⟨b,0,none⟩))=roomsV (ms++[b])):=fun b=>roomsV_set ms b hms
 generalize hk:ms.length=k at *
 have hki:(k:Int)<8:=by omega
 have h0:w.cell? ⟨hbk,0,none⟩=some (.int .i64 k):=hh.cell rfl
 have f0:w.frozen? ⟨hbk,0,none⟩=false:=hh.free 0
 have h1:w.cell? ⟨hbk,1,none⟩=some (.slice (some ⟨rb,0,none⟩) 8 8):=hh.cell rfl
 have HN:Hid (Calls Pz.prog 66 #[.pointer (some ⟨hbk,0,none⟩),.int .i64 8] w.drew fun e w'=>e=.returned (.tuple #[.int .i64 k,.bool true])∧w'=w.drew.setCell ⟨hbk,0,none⟩ (.int .i64 ((k:Int)+1))):=next_any hbk 0 k 8 w.drew (by omega) (by omega) (by omega) h0 f0
 have hh1:BlkAt (w.drew.setCell ⟨hbk,0,none⟩ (.int .i64 ((k:Int)+1))) hbk (hostV (k+1:Nat) rb) 120:=by
  have:=BlkAt.set (w:=w.drew) hh 0 (.int .i64 ((k:Int)+1))
  simpa [hostV] using this
 have hr1:BlkAt (w.drew.setCell ⟨hbk,0,none⟩ (.int .i64 ((k:Int)+1))) rb (roomsV ms) 125:=BlkAt.other (w:=w.drew) hr (Ne.symm hne)
 have HB1:Hid (Below lo w (w.drew.setCell ⟨hbk,0,none⟩ (.int .i64 ((k:Int)+1)))):=((Below.refl _ _).drew).setCell l1 _
 have hlo:lo≤(w.drew.setCell ⟨hbk,0,none⟩ (.int .i64 ((k:Int)+1))).heap.size:=by have:=hh1.lt;omega
 have HK1:Hid (Keep (fun k=>k=hbk∨k=rb) w (w.drew.setCell ⟨hbk,0,none⟩ (.int .i64 ((k:Int)+1)))):=((Keep.refl _ w).drew).set (.inl (.inl rfl))
 have HZ1:Hid (w.heap.size≤(w.drew.setCell ⟨hbk,0,none⟩ (.int .i64 ((k:Int)+1))).heap.size):=HK1.out.size
 generalize hw1:w.drew.setCell ⟨hbk,0,none⟩ (.int .i64 ((k:Int)+1))=w1 at *
 clear hw1
 have k1:w1.cell? ⟨hbk,1,none⟩=some (.slice (some ⟨rb,0,none⟩) 8 8):=hh1.cell rfl
 have hbl:=hh1.lt
 have hrl:=hr1.lt
 have HP:Hid (∀ W,Below w1.heap.size w1 W→Calls Pz.prog 68 #[.int .i64 sd,.int .i64 P] W fun e w'=>∃ mb,e=.returned (.pointer (some ⟨mb,0,none⟩))∧(w'.cell? ⟨hbk,1,none⟩=some (.slice (some ⟨rb,0,none⟩) 8 8))∧Hid ((∃ sb hb cap tb gv uv bs g,MParts w' 0 w1.heap.size mb sd P sb hb cap tb gv uv bs g [])∧Below w1.heap.size w1 w')):=fun W hW=>by
  have hW0:Below lo w0 W:=(hb0.trans (HB1.out.trans (hW.mono hlo)))
  refine (pnew_any sd P W p2 p4 s0 s1 (hC W hW0).1 (hC W hW0).2).mono ?_
  rintro e w' ⟨mb,sb,hb,cap,tb,gv,uv,bs,g,he,hM,hb'⟩
  have hb1:=hW.trans (hb'.mono hW.size)
  exact ⟨mb,he,(hb1.cell hbl).trans k1,⟨sb,hb,cap,tb,gv,uv,bs,g,hM.lower hW.size⟩,hb1⟩
 have HS:Hid (∀ mb W,Hid ((∃ sb hb cap tb gv uv bs g,MParts W 0 w1.heap.size mb sd P sb hb cap tb gv uv bs g [])∧Below w1.heap.size w1 W)→Calls Pz.prog 67 #[.pointer (some ⟨rb,k,none⟩),.pointer (some ⟨mb,0,none⟩)] W fun e w'=>e=.returned (.tuple #[])∧w'=W.setCell ⟨rb,k,none⟩ (.pointer (some ⟨mb,0,none⟩))):=fun mb W hq=>by
  obtain ⟨⟨sb,hb,cap,tb,gv,uv,bs,g,hM⟩,hb2⟩:=hq.out
  have hr2:BlkAt W rb (roomsV ms) 125:=hr1.same (hb2.block _ hrl)
  exact pstore_any rb k mb _ (.pointer none) W (hr2.cell hfree) (hr2.free k) hM.cells rfl
 have HH:=(show Hid _ from hh1)
 have HR:=(show Hid _ from hr1)
 clear hh hr hh1 hr1 hC hb0 h0 f0 hmay
 go_enter Pz.func32,Tryz.ntmps32
 go_wp2_with (go_at_call 36;refine Calls.mono (HM.out _) ?_;rintro e w' ⟨rfl,rfl⟩)
 go_region_with (go_at_call 66;refine Calls.mono HN.out ?_;rintro e w' ⟨rfl,rfl⟩)
 go_wp2_with fail
 go_region_with (first
  | (go_at_call 68;refine Calls.mono (HP.out _ ((Below.refl _ _).drew)) ?_;rintro e w2 ⟨mb,rfl,kc1,hq⟩)
  | (go_at_call 67;refine Calls.mono (HS.out mb w2 hq) ?_;rintro e w3 ⟨rfl,hw3⟩))
 all_goals
  obtain ⟨⟨sb,hb,cap,tb,gv,uv,bs,g,hM⟩,hb2⟩:=hq.out
  go_wp2
  go_ret2
  subst hw3
  have g1:=BlkAt.same (w:=_) HH.out (hb2.block _ hbl)
  have g2:=BlkAt.same (w:=_) HR.out (hb2.block _ hrl)
  subst hk
  exact ⟨rfl,⟨_,mb,sb,hb,cap,tb,gv,uv,bs,g,[],rfl,HZ1.out,hbl,hrl,by simpa using hb2.size,hM.on (fun j hj _=>Below.heap_setCell w2 ⟨rb,ms.length,none⟩ _ j (by show j≠rb;omega)),BlkAt.other g1 hne,HSet.out mb▸BlkAt.set g2 ms.length _⟩,(HB1.out.trans (hb2.mono hlo)).setCell (p:=⟨rb,ms.length,none⟩) l2 _,(HK1.out.trans (Keep.ofBelow hb2) (fun j hj=>.inr (Nat.le_trans HZ1.out hj))).set (.inl (.inr rfl))⟩
end Go.Proofs.YtdianedehhecoaaGreatDoor