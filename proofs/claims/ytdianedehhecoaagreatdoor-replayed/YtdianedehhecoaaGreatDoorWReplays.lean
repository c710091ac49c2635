/- Replayed: what it asks of the play's match, behind every turn. -/
import Derived.Test.YtdianedehhecoaaGreatDoorWPlayTicks
set_option linter.unusedVariables false
set_option linter.unusedSimpArgs false
namespace Go.Proofs.YtdianedehhecoaaGreatDoor
open Go.RowKit
def stAt (sd:Int)(P:Nat)(T:List (List RC))(k:Nat):ByteArray:=bytesF (behindT (startTo sd P) (T.take k))
structure Rep (W:World)(pb hbk m:Nat)(sd:Int)(P:Nat)(T:List (List RC)):Prop where
 c0:W.cell? ⟨pb,0,none⟩=some (.pointer (some ⟨hbk,0,none⟩))
 c1:W.cell? ⟨pb,1,none⟩=some (.int .i64 m)
 c2:W.cell? ⟨pb,2,none⟩=some (.int .i64 sd)
 c3:W.cell? ⟨pb,3,none⟩=some (.int .i64 P)
 fold:∀ w' k,Below W.heap.size W w'→k≤T.length→Calls Pz.prog 17 #[.int .i64 sd,.int .i64 P,.string (turnsB (T.take k))] w' fun e w2=>e=.returned (.tuple #[.string (stAt sd P T k),.string (hash16 (stAt sd P T k)),.int .i64 0])∧Below w'.heap.size w' w2
 hash:∀ w' k,Below W.heap.size W w'→k≤T.length→Calls Pz.prog 18 #[.pointer (some ⟨hbk,0,none⟩),.int .i64 m,.int .i64 k] w' fun e w2=>e=.returned (.tuple #[.string (hash16 (stAt sd P T k)),.int .i64 0])∧Below w'.heap.size w' w2
 state:∀ w',Below W.heap.size W w'→Calls Pz.prog 19 #[.pointer (some ⟨hbk,0,none⟩),.int .i64 m] w' fun e w2=>e=.returned (.tuple #[.string (stAt sd P T T.length),.int .i64 0])∧Below w'.heap.size w' w2
theorem Rep.on {W w':World}{pb hbk m:Nat}{sd:Int}{P:Nat}{T:List (List RC)}(h:Rep W pb hbk m sd P T)(hb:Below W.heap.size W w'):Rep w' pb hbk m sd P T :=
 ⟨(hb.cell (cell_lt h.c0)).trans h.c0,(hb.cell (cell_lt h.c1)).trans h.c1,(hb.cell (cell_lt h.c2)).trans h.c2,(hb.cell (cell_lt h.c3)).trans h.c3,
  fun w2 k hb2=>h.fold w2 k (hb.trans (hb2.mono hb.size)),fun w2 k hb2=>h.hash w2 k (hb.trans (hb2.mono hb.size)),fun w2 hb2=>h.state w2 (hb.trans (hb2.mono hb.size))⟩
theorem turnsB_small (T:List (List RC))(h:TOk T)(hl:T.length≤1000):(turnsB T).size≤140737488351232:=by
 have key:∀ k,k≤T.length→endOf T k≤181*k:=by
  intro k
  induction k with
  | zero=>intro _;rw[endOf_zero];omega
  | succ k ih =>
   intro hk
   have hm:T[k]∈T:=List.getElem_mem _
   have:=(h _ hm).1
   have:=ih (by omega)
   rw[endOf_succ T (List.getElem?_eq_getElem (by omega))]
   omega
 have:=key T.length (Nat.le_refl _)
 rw[endOf_all]at this
 omega
theorem TOk.take {T:List (List RC)}(h:TOk T)(k:Nat):TOk (T.take k):=fun c hc=>h c (List.mem_of_mem_take hc)
theorem PA.rep {W:World}{D:Nat→Prop}{pb:Nat}{sd:Int}{P:Nat}{T:List (List RC)}{Q:PSt}(h:PA W D pb sd P T Q)(s0:0≤sd)(s1:sd≤999)(p2:2≤P)(p4:P≤4)(hC:Corners W)(hD:W.cell? ⟨4,15,none⟩=some (.int .u8 4)) :
  Rep W pb Q.hbk Q.m sd P T:=by
 obtain ⟨⟨f,hP⟩,hH,rfl,hsi⟩:=h
 have hpl:=hP.play
 refine ⟨hpl.cell rfl,hpl.cell rfl,?_,?_,fun w' k hb hk=>?_,fun w' k hb hk=>?_,fun w' hb=>?_⟩
 ·rw[← hH.seed];exact hpl.cell rfl
 ·rw[← hH.size];exact hpl.cell rfl
 ·have hC':Corners w':=fun p hp=>by
   obtain ⟨h1,h2,h3,h4⟩:=hC p hp
   exact ⟨(hb.cell (cell_lt h1)).trans h1,(hb.cell (cell_lt h2)).trans h2,(hb.cell (cell_lt h3)).trans h3,(hb.cell (cell_lt h4)).trans h4⟩
  have hkl:(T.take k).length=k:=by rw[List.length_take];omega
  refine (PFold_any sd P (turnsB (T.take k)) w' (turnsB_small _ (hH.okT.take k) (by have:=hH.most;omega)) hC' ((hb.cell (cell_lt hD)).trans hD)).mono ?_
  rintro e w2 ⟨he,hb2⟩
  have hf:=fold_ok (mayB_of sd P s0 s1 p2 p4) (turns_read _ (hH.okT.take k) (by have:=hH.most;omega)) (play_behind (startTo sd P) (T.take k) fun j hj=>by
   rw[List.take_take,Nat.min_eq_left (by omega)]
   exact hH.goes j (by omega))
  rw[hf]at he
  exact ⟨he,hb2⟩
 ·have hP':=hP.below hb
  obtain ⟨g,hM⟩:=hP'.mat
  exact hhash_gen hP'.room hM.cells rfl (hM.hashOf hP.ok.lock (hH.hash k hk) (by have:=hH.most;have:=hH.hlen;omega))
 ·have hP':=hP.below hb
  obtain ⟨g,hM⟩:=hP'.mat
  have e:stAt sd P T T.length=bytesF Q.M.S:=by unfold stAt;rw[List.take_length,hH.state]
  rw[e]
  exact hstate_gen hP'.room hM.cells rfl (hM.stateOf hP.ok.lock)
end Go.Proofs.YtdianedehhecoaaGreatDoor
/- Replayed behind its calls of the play: alone. -/
namespace Go.Proofs.YtdianedehhecoaaGreatDoor
open Go.RowKit
noncomputable def cRep:Code:=(Tryz.f5.body).getD .skip
theorem lit151 (f:Nat→Value):((List.range 151).map f).toArray=#[f 0,f 1,f 2,f 3,f 4,f 5,f 6,f 7,f 8,f 9,f 10,f 11,f 12,f 13,f 14,f 15,f 16,f 17,f 18,f 19,f 20,f 21,f 22,f 23,f 24,f 25,f 26,f 27,f 28,f 29,f 30,f 31,f 32,f 33,f 34,f 35,f 36,f 37,f 38,f 39,f 40,f 41,f 42,f 43,f 44,f 45,f 46,f 47,f 48,f 49,f 50,f 51,f 52,f 53,f 54,f 55,f 56,f 57,f 58,f 59,f 60,f 61,f 62,f 63,f 64,f 65,f 66,f 67,f 68,f 69,f 70,f 71,f 72,f 73,f 74,f 75,f 76,f 77,f 78,f 79,f 80,f 81,f 82,f 83,f 84,f 85,f 86,f 87,f 88,f 89,f 90,f 91,f 92,f 93,f 94,f 95,f 96,f 97,f 98,f 99,f 100,f 101,f 102,f 103,f 104,f 105,f 106,f 107,f 108,f 109,f 110,f 111,f 112,f 113,f 114,f 115,f 116,f 117,f 118,f 119,f 120,f 121,f 122,f 123,f 124,f 125,f 126,f 127,f 128,f 129,f 130,f 131,f 132,f 133,f 134,f 135,f 136,f 137,f 138,f 139,f 140,f 141,f 142,f 143,f 144,f 145,f 146,f 147,f 148,f 149,f 150]:=by kernel_rfl
theorem ext_left (A B:ByteArray):(A++B).extract 0 A.size=A:=by
 apply ByteArray.ext
 rw[ByteArray.data_extract,ByteArray.data_append]
 have h1:A.size=A.data.size:=rfl
 rw[h1]
 apply Array.ext'
 rw[Array.toList_extract,Array.toList_append,List.extract_eq_take_drop]
 simp
section
variable {W:World} {N pb hbk m:Nat} {sd:Int} {P:Nat} {T:List (List RC)} {n sg scap ng ncap:Nat} {since:List Nat} {tm:Array Value}
set_option maxHeartbeats 8000000 in
set_option maxRecDepth 20000 in
theorem replayed_rest (h:Told2 W N pb T n sg scap ng ncap since)(hR:Rep W pb hbk m sd P T)(hz:tm.size=151)(h9:tm.getD 9 undef=.pointer (some ⟨pb,0,none⟩))(h13:tm.getD 13 undef=.bool true) :
  Code.wp Pz.prog (after 6 cRep) (WatQ W) ⟨tm,[]⟩ W:=by
 have e:=tmps_lit (n:=151) (tm:=tm) hz
 obtain ⟨f,hf⟩:∃ f:Nat→Value,f=fun i=>tm.getD i undef:=⟨_,rfl⟩
 have e9:f 9=.pointer (some ⟨pb,0,none⟩):=by rw[hf];exact h9
 have e13:f 13=.bool true:=by rw[hf];exact h13
 rw[← hf,lit151]at e
 subst e
 clear hf hz h9 h13
 have c8:=h.seen
 have t0:=h.texts 0 0 h.first
 rw[List.drop_zero]at t0
 have hone:=h.one
 have hoi:(0:Int)<n:=by omega
 have HCut:Hid (Calls Pz.prog 16 #[.string (turnsB T)] W fun e w2=>∃ v cap,e=.returned (.tuple #[.slice v T.length cap,.bool true])∧Hid (CutAt W w2 T T.length (.slice v T.length cap)∧Told2 w2 N pb T n sg scap ng ncap since∧Rep w2 pb hbk m sd P T)∧w2.cell? ⟨pb,10,none⟩=some (.int .i64 T.length)):=(cut_any W T h.okT h.most).mono fun e w2 ⟨v,he,hC⟩=>by
  obtain ⟨a,cap,ev⟩:=row_slice hC.row
  subst ev
  have h2:=h.on hC.below
  exact ⟨a,cap,he,⟨hC,h2,hR.on hC.below⟩,h2.turns⟩
 have hmo:=h.most
 clear h hR
 simp only[cRep,after,Tryz.f5,Option.getD,e9,e13]
 clear e9 e13
 generalize hS:turnsB T=s at *
 go_wp2_with (go_at_call 16;refine Calls.mono HCut.out ?_;rintro e w2 ⟨va,vcap,rfl,HC,c10⟩)
 go_loopw [16] (fun iv wr=>∃ k:Nat,k≤T.length+1∧iv=.int .i64 k∧Hid (Below w2.heap.size w2 wr)) (fun iv _=>T.length+1-(intOf iv).toNat)
 case atStart=>exact ⟨0,by omega,rfl,Below.refl _ _⟩
 case round =>
  obtain ⟨k,hk,rfl,HB⟩:=hrel
  obtain ⟨hC,hT,hR⟩:=HC.out
  by_cases hle:k≤T.length
  ·have hki:(k:Int)≤T.length:=by omega
   have HR:=(show Hid _ from hR)
   obtain ⟨st,hst⟩:∃ x,x=stAt sd P T k:=⟨_,rfl⟩
   obtain ⟨part,hpart⟩:∃ x,x=turnsB (T.take k):=⟨_,rfl⟩
   have held:∀ V,Below w2.heap.size w2 V→(V.cell? ⟨pb,2,none⟩=some (.int .i64 sd)∧V.cell? ⟨pb,3,none⟩=some (.int .i64 P))∧(V.cell? ⟨pb,0,none⟩=some (.pointer (some ⟨hbk,0,none⟩))∧V.cell? ⟨pb,1,none⟩=some (.int .i64 m)):=fun V hV=>by
    have r:=hR.on hV
    exact ⟨⟨r.c2,r.c3⟩,r.c0,r.c1⟩
   have HF:Hid (∀ V,Below w2.heap.size w2 V→Calls Pz.prog 17 #[.int .i64 sd,.int .i64 P,.string part] V fun e w3=>e=.returned (.tuple #[.string st,.string (hash16 st),.int .i64 0])∧(w3.cell? ⟨pb,2,none⟩=some (.int .i64 sd)∧w3.cell? ⟨pb,3,none⟩=some (.int .i64 P))∧Hid (Below w2.heap.size w2 w3)):=fun V hV=>by
    rw[hst,hpart]
    refine (hR.fold V k hV hle).mono ?_
    rintro e w3 ⟨he,hb⟩
    have hb3:=hV.trans (hb.mono hV.size)
    exact ⟨he,(held w3 hb3).1,hb3⟩
   have HHa:Hid (∀ V,Below w2.heap.size w2 V→Calls Pz.prog 18 #[.pointer (some ⟨hbk,0,none⟩),.int .i64 m,.int .i64 k] V fun e w3=>e=.returned (.tuple #[.string (hash16 st),.int .i64 0])∧(w3.cell? ⟨pb,0,none⟩=some (.pointer (some ⟨hbk,0,none⟩))∧w3.cell? ⟨pb,1,none⟩=some (.int .i64 m))∧Hid (Below w2.heap.size w2 w3)):=fun V hV=>by
    rw[hst]
    refine (hR.hash V k hV hle).mono ?_
    rintro e w3 ⟨he,hb⟩
    have hb3:=hV.trans (hb.mono hV.size)
    exact ⟨he,(held w3 hb3).2,hb3⟩
   have HSt:Hid (k=T.length→∀ V,Below w2.heap.size w2 V→Calls Pz.prog 19 #[.pointer (some ⟨hbk,0,none⟩),.int .i64 m] V fun e w3=>e=.returned (.tuple #[.string st,.int .i64 0])∧(w3.cell? ⟨pb,0,none⟩=some (.pointer (some ⟨hbk,0,none⟩))∧w3.cell? ⟨pb,1,none⟩=some (.int .i64 m))∧Hid (Below w2.heap.size w2 w3)):=fun hk V hV=>by
    rw[hst,hk]
    refine (hR.state V hV).mono ?_
    rintro e w3 ⟨he,hb⟩
    have hb3:=hV.trans (hb.mono hV.size)
    exact ⟨he,(held w3 hb3).2,hb3⟩
   have Held:=(show Hid _ from held)
   obtain ⟨⟨y2,y3⟩,y0,y1⟩:=held wr HB.out
   obtain ⟨⟨z2,z3⟩,z0,z1⟩:=held wr.drew HB.out.drew
   clear held hR HR hst
   rcases Nat.eq_zero_or_pos k with hk0|hk0
   case' inl =>
    have hkz:¬ (0:Int)<k:=by omega
    obtain rfl:part=⟨#[]⟩:=by rw[hpart,hk0];rfl
    clear hT hC HC hk0 hpart
    go_wp2_with fail
   case' inr =>
    have hkz:(0:Int)<k:=by omega
    have d8:wr.cell? ⟨pb,8,none⟩=some (.slice (some ⟨sg,0,none⟩) n scap):=(HB.out.cell (cell_lt hT.seen)).trans hT.seen
    have t0':=hT.texts 0 0 hT.first
    have t0:wr.cell? ⟨sg,0,none⟩=some (.string (turnsB (T.drop 0))):=(HB.out.cell (cell_lt t0')).trans t0'
    rw[List.drop_zero,hS]at t0
    obtain ⟨g,cap2,ev,-,-,-,hcc,-⟩:=hC.row.form (by omega)
    injection ev with ev1 ev2 ev3
    subst ev1
    subst ev3
    clear ev2
    have ce':w2.cell? ⟨g,k-1,none⟩=some (.int .i64 (endOf T k:Nat)):=hcc (k-1) _ (by
     unfold endsV
     rw[List.getElem?_map,List.getElem?_range (by omega)]
     simp only[Option.map_some]
     rw[show k-1+1=k by omega])
    have ce:=(HB.out.cell (cell_lt ce')).trans ce'
    have hel:=endOf_le T k hle
    rw[hS]at hel
    have hex:s.extract 0 (endOf T k)=part:=by
     have e:s=turnsB (T.take k)++turnsB (T.drop k):=by rw[← turnsB_append,List.take_append_drop,hS]
     rw[hpart,show endOf T k=(turnsB (T.take k)).size from rfl,e,ext_left]
    obtain ⟨ed,hed⟩:∃ x,x=endOf T k:=⟨_,rfl⟩
    rw[← hed]at ce hel hex
    have hw1:IntKind.i64.wrap ((k:Int)-1)=(k:Int)-1:=by simp[IntKind.wrap,IntKind.bits,IntKind.signed];omega
    have hqn:((k:Int)-1).toNat=k-1:=by omega
    have hq2:(k:Int)-1<T.length:=by omega
    have hq3:¬ (k:Int)-1<0:=by omega
    have hei:(ed:Int)≤s.size:=by omega
    subst hex
    clear hT hC HC hcc hed hpart t0' ce' hk0
    go_wp2_with fail
    go_quiet (fail)
    clear z0 z1 z2 z3 y0 y1 y2 y3
    obtain ⟨⟨y2,y3⟩,y0,y1⟩:=Held.out (wr.drewN nq) ⟨HB.out.os,HB.out.tape,HB.out.output,HB.out.size,HB.out.block⟩
    obtain ⟨⟨z2,z3⟩,z0,z1⟩:=Held.out (wr.drewN nq).drew ⟨HB.out.os,HB.out.tape,HB.out.output,HB.out.size,HB.out.block⟩
    go_wp2_with fail
   all_goals
    go_region_held3 (fun w'=>w'.cell? ⟨pb,2,none⟩=some (.int .i64 sd)∧w'.cell? ⟨pb,3,none⟩=some (.int .i64 P)) (first|(with_reducible assumption)|(refine ⟨?_,?_⟩<;>(with_reducible assumption))|go_keep) (first|(go_at_call 17;refine Calls.mono (HF.out _ ⟨HB.out.os,HB.out.tape,HB.out.output,HB.out.size,HB.out.block⟩) ?_;rintro e w3 ⟨rfl,hqs,hb3⟩))
    obtain ⟨-,v0,v1⟩:=Held.out w3 hb3.out
    obtain ⟨-,x0,x1⟩:=Held.out w3.drew hb3.out.drew
    clear z0 z1 z2 z3 y0 y1 y2 y3 hqs
    go_wp2_with fail
    go_region_held3 (fun w'=>w'.cell? ⟨pb,0,none⟩=some (.pointer (some ⟨hbk,0,none⟩))∧w'.cell? ⟨pb,1,none⟩=some (.int .i64 m)) (first|(with_reducible assumption)|(refine ⟨?_,?_⟩<;>(with_reducible assumption))|go_keep) (first|(go_at_call 18;refine Calls.mono (HHa.out _ hb3.out.drew) ?_;rintro e w4 ⟨rfl,hqs,hb4⟩))
    obtain ⟨-,p0,p1⟩:=Held.out w4 hb4.out
    obtain ⟨-,q0,q1⟩:=Held.out w4.drew hb4.out.drew
    clear x0 x1 v0 v1 hqs
    by_cases hkl:k=T.length
    ·have hki2:(k:Int)=T.length:=by omega
     have HS2:Hid _:=HSt.out hkl
     clear hkl
     go_wp2_with fail
     go_region_held3 (fun w'=>w'.cell? ⟨pb,0,none⟩=some (.pointer (some ⟨hbk,0,none⟩))∧w'.cell? ⟨pb,1,none⟩=some (.int .i64 m)) (first|(with_reducible assumption)|(refine ⟨?_,?_⟩<;>(with_reducible assumption))|go_keep) (first|(go_at_call 19;refine Calls.mono (HS2.out _ hb4.out.drew) ?_;rintro e w5 ⟨rfl,hqs,hb5⟩))
     go_wp2_with fail
     exact ⟨⟨k+1,by omega,by go_num,hb5⟩,by simp[intOf];omega⟩
    ·have hki2:¬ (k:Int)=T.length:=by omega
     clear hkl
     go_wp2_with fail
     exact ⟨⟨k+1,by omega,by go_num,hb4⟩,by simp[intOf];omega⟩
  ·obtain rfl:k=T.length+1:=by omega
   have hBW:Hid (Below W.heap.size W wr):=hC.below.trans (HB.out.mono hC.below.size)
   clear hT hC hR
   go_wp2_with fail
   exact ⟨rfl,rfl,rfl,hBW.out⟩
end
end Go.Proofs.YtdianedehhecoaaGreatDoor