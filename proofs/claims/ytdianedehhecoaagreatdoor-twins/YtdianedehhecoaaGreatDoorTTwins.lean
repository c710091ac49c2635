/- Twins behind its moves: alone. -/
import Derived.Test.YtdianedehhecoaaGreatDoorTPlayTicks
set_option linter.unusedVariables false
set_option linter.unusedSimpArgs false
set_option maxHeartbeats 8000000
set_option maxRecDepth 20000
namespace Go.Proofs.YtdianedehhecoaaGreatDoor
open Go.RowKit
noncomputable def cTwi:Code:=(Tryz.f8.body).getD .skip
theorem lit250 (f:Nat→Value):((List.range 250).map f).toArray=#[f 0,f 1,f 2,f 3,f 4,f 5,f 6,f 7,f 8,f 9,f 10,f 11,f 12,f 13,f 14,f 15,f 16,f 17,f 18,f 19,f 20,f 21,f 22,f 23,f 24,f 25,f 26,f 27,f 28,f 29,f 30,f 31,f 32,f 33,f 34,f 35,f 36,f 37,f 38,f 39,f 40,f 41,f 42,f 43,f 44,f 45,f 46,f 47,f 48,f 49,f 50,f 51,f 52,f 53,f 54,f 55,f 56,f 57,f 58,f 59,f 60,f 61,f 62,f 63,f 64,f 65,f 66,f 67,f 68,f 69,f 70,f 71,f 72,f 73,f 74,f 75,f 76,f 77,f 78,f 79,f 80,f 81,f 82,f 83,f 84,f 85,f 86,f 87,f 88,f 89,f 90,f 91,f 92,f 93,f 94,f 95,f 96,f 97,f 98,f 99,f 100,f 101,f 102,f 103,f 104,f 105,f 106,f 107,f 108,f 109,f 110,f 111,f 112,f 113,f 114,f 115,f 116,f 117,f 118,f 119,f 120,f 121,f 122,f 123,f 124,f 125,f 126,f 127,f 128,f 129,f 130,f 131,f 132,f 133,f 134,f 135,f 136,f 137,f 138,f 139,f 140,f 141,f 142,f 143,f 144,f 145,f 146,f 147,f 148,f 149,f 150,f 151,f 152,f 153,f 154,f 155,f 156,f 157,f 158,f 159,f 160,f 161,f 162,f 163,f 164,f 165,f 166,f 167,f 168,f 169,f 170,f 171,f 172,f 173,f 174,f 175,f 176,f 177,f 178,f 179,f 180,f 181,f 182,f 183,f 184,f 185,f 186,f 187,f 188,f 189,f 190,f 191,f 192,f 193,f 194,f 195,f 196,f 197,f 198,f 199,f 200,f 201,f 202,f 203,f 204,f 205,f 206,f 207,f 208,f 209,f 210,f 211,f 212,f 213,f 214,f 215,f 216,f 217,f 218,f 219,f 220,f 221,f 222,f 223,f 224,f 225,f 226,f 227,f 228,f 229,f 230,f 231,f 232,f 233,f 234,f 235,f 236,f 237,f 238,f 239,f 240,f 241,f 242,f 243,f 244,f 245,f 246,f 247,f 248,f 249]:=by kernel_rfl
structure Shw (W:World)(pb hbk m u n sg scap:Nat)(st hx s0:ByteArray)(ph pl tn wa wn:Int):Prop where
 c0:W.cell? ⟨pb,0,none⟩=some (.pointer (some ⟨hbk,0,none⟩))
 c1:W.cell? ⟨pb,1,none⟩=some (.int .i64 m)
 c8:W.cell? ⟨pb,8,none⟩=some (.slice (some ⟨sg,0,none⟩) n scap)
 c10:W.cell? ⟨pb,10,none⟩=some (.int .i64 u)
 one:0<n
 t0:W.cell? ⟨sg,0,none⟩=some (.string s0)
 state:∀ w',Below W.heap.size W w'→Calls Pz.prog 19 #[.pointer (some ⟨hbk,0,none⟩),.int .i64 m] w' fun e w2=>e=.returned (.tuple #[.string st,.int .i64 0])∧Below w'.heap.size w' w2
 look:∀ w',Below W.heap.size W w'→Calls Pz.prog 20 #[.pointer (some ⟨hbk,0,none⟩),.int .i64 m] w' fun e w2=>e=.returned (.tuple #[.agg #[.int .i64 ph,.bool false,.int .i64 pl,.int .i64 tn,.int .i64 wa,.int .i64 wn],.int .i64 0])∧Below w'.heap.size w' w2
 hash:∀ w',Below W.heap.size W w'→Calls Pz.prog 18 #[.pointer (some ⟨hbk,0,none⟩),.int .i64 m,.int .i64 u] w' fun e w2=>e=.returned (.tuple #[.string hx,.int .i64 0])∧Below w'.heap.size w' w2
theorem Shw.on {W w':World}{pb hbk m u n sg scap:Nat}{st hx s0:ByteArray}{ph pl tn wa wn:Int}(h:Shw W pb hbk m u n sg scap st hx s0 ph pl tn wa wn)(hb:Below W.heap.size W w'):Shw w' pb hbk m u n sg scap st hx s0 ph pl tn wa wn :=
 ⟨(hb.cell (cell_lt h.c0)).trans h.c0,(hb.cell (cell_lt h.c1)).trans h.c1,(hb.cell (cell_lt h.c8)).trans h.c8,(hb.cell (cell_lt h.c10)).trans h.c10,h.one,(hb.cell (cell_lt h.t0)).trans h.t0,fun w2 hb2=>h.state w2 (hb.trans (hb2.mono hb.size)),fun w2 hb2=>h.look w2 (hb.trans (hb2.mono hb.size)),fun w2 hb2=>h.hash w2 (hb.trans (hb2.mono hb.size))⟩
def Vw.wait (V:Vw):Nat:=sumTo (fun i=>(V.ps.getD i []).length) V.ps.length
theorem PA.shw {W:World}{D:Nat→Prop}{pb:Nat}{sd:Int}{P:Nat}{T:List (List RC)}{Q:PSt}(h:PA W D pb sd P T Q):∃ n sg scap,Shw W pb Q.hbk Q.m (Q.vw.hs.length-1) n sg scap (bytesF Q.vw.S) (Q.vw.hs.getD (Q.vw.hs.length-1) ⟨#[]⟩) (Q.vw.seen.getD 0 ⟨#[]⟩) (if overB Q.vw.S then 3 else 2) Q.vw.ps.length Q.vw.S.turn Q.vw.wait (winP (toPS Q.vw.S).units):=by
 obtain ⟨⟨f,hP⟩,hH,rfl,hsi⟩:=h
 have hpl:=hP.play
 have h1:=hP.ok.seen
 have h2:=hP.ok.since
 have h0:0<Q.since.length:=by
  rcases Nat.eq_zero_or_pos Q.since.length with x|x
  ·exact absurd (List.eq_nil_of_length_eq_zero x) hsi
  ·exact x
 obtain ⟨sg,scap,e1,-,-,-,hc1,-⟩:=hP.seen.form (by omega)
 have hl:Q.vw.hs.length-1=T.length:=by
  show Q.M.hs.length-1=_
  rw[hH.hlen]
  rfl
 have hu:Q.turns=Q.vw.hs.length-1:=by rw[hl,hH.turns]
 have hx:Q.M.hs[T.length]? = some (Q.vw.hs.getD (Q.vw.hs.length-1) ⟨#[]⟩):=by
  rw[hl]
  show Q.M.hs[T.length]? = some (Q.M.hs.getD T.length ⟨#[]⟩)
  rw[List.getD_eq_getElem?_getD,List.getElem?_eq_getElem (by rw[hH.hlen];omega)]
  rfl
 have hw:sumTo Q.M.waits Q.M.ps.length=Q.vw.wait:=by
  have e:Q.M.waits=fun i=>((Q.M.ps.map (·.cs)).getD i []).length:=by
   funext i
   unfold MSt.waits
   rw[List.getD_eq_getElem?_getD,List.getElem?_map]
   cases Q.M.ps[i]?<;>rfl
  rw[e]
  unfold Vw.wait PSt.vw
  simp only[List.length_map]
 refine ⟨Q.seen.length,sg,scap,hpl.cell rfl,hpl.cell rfl,by rw[← e1];exact hpl.cell rfl,by rw[← hu];exact hpl.cell rfl,by omega,hc1 0 _ ?_,fun w' hb=>?_,fun w' hb=>?_,fun w' hb=>?_⟩
 ·rw[List.getElem?_map]
  show (Q.seen[0]?).map _=some (Value.string (Q.seen.getD 0 ⟨#[]⟩))
  rw[List.getD_eq_getElem?_getD,List.getElem?_eq_getElem (by omega)]
  rfl
 ·have hP':=hP.below hb
  obtain ⟨g,hM⟩:=hP'.mat
  exact hstate_gen hP'.room hM.cells rfl (hM.stateOf hP.ok.lock)
 ·have H:=(hP.below hb).lookH
  rw[hw]at H
  show Calls _ _ _ _ fun e w2=>e=.returned (.tuple #[.agg #[.int .i64 (if overB Q.M.S then 3 else 2),.bool false,.int .i64 (Q.M.ps.map (·.cs)).length,.int .i64 Q.M.S.turn,.int .i64 Q.vw.wait,.int .i64 (winP (toPS Q.M.S).units)],.int .i64 0])∧_
  rw[List.length_map]
  exact H
 ·have hP':=hP.below hb
  obtain ⟨g,hM⟩:=hP'.mat
  rw[hl]at hx ⊢
  exact hhash_gen hP'.room hM.cells rfl (hM.hashOf hP.ok.lock hx (by have:=hH.most;have:=hH.hlen;omega))
theorem viewNe (a c d e f:Int)(b:Bool)(W:World):(binOp .neq 46 (.agg #[.int .i64 a,.bool b,.int .i64 c,.int .i64 d,.int .i64 e,.int .i64 f]) (.agg #[.int .i64 a,.bool b,.int .i64 c,.int .i64 d,.int .i64 e,.int .i64 f])).run Pz.prog W=.ok (.bool false) W:=by
 have h:=viewEq a c d e f b W
 rw[run_eql_struct]at h
 rw[run_neq_struct]
 cases hr:(Op.equalIn 10000 46 (.agg #[.int .i64 a,.bool b,.int .i64 c,.int .i64 d,.int .i64 e,.int .i64 f]) (.agg #[.int .i64 a,.bool b,.int .i64 c,.int .i64 d,.int .i64 e,.int .i64 f])).run Pz.prog W with
 | ok x w' =>
  rw[hr]at h
  simp only[Result.andThen,Result.ok.injEq,Value.bool.injEq]at h ⊢
  rw[h.1,h.2]
  exact ⟨rfl,rfl⟩
 | _=>rw[hr]at h;simp[Result.andThen]at h
def TwiQ (W:World)(e:Exit)(a:Act)(w':World):Prop:=e=.ret∧a.defers=[]∧a.tmps.getD 10 undef=.bool true∧Below W.heap.size W w'
section
variable {W:World} {pb qb hb1 hb2 m1 m2 u n1 n2 sg1 sg2 cap1 cap2 vb vc:Nat} {st hx s0:ByteArray} {ph pl tn wa wn:Int} {tm:Array Value}
theorem twi_c (h1:Shw W pb hb1 m1 u n1 sg1 cap1 st hx s0 ph pl tn wa wn)(h2:Shw W qb hb2 m2 u n2 sg2 cap2 st hx s0 ph pl tn wa wn)(hv1:BlkAt W vb [.int .i64 ph,.bool false,.int .i64 pl,.int .i64 tn,.int .i64 wa,.int .i64 wn] 46)(hv2:BlkAt W vc [.int .i64 ph,.bool false,.int .i64 pl,.int .i64 tn,.int .i64 wa,.int .i64 wn] 46)(hz:tm.size=250)(h11:tm.getD 11 undef=.pointer (some ⟨pb,0,none⟩))(h13:tm.getD 13 undef=.pointer (some ⟨qb,0,none⟩))(h21:tm.getD 21 undef=.string st)(h22:tm.getD 22 undef=.int .i64 0)(h23:tm.getD 23 undef=.string st)(h24:tm.getD 24 undef=.int .i64 0)(h25:tm.getD 25 undef=.pointer (some ⟨vb,0,none⟩))(h26:tm.getD 26 undef=.int .i64 0)(h27:tm.getD 27 undef=.pointer (some ⟨vc,0,none⟩))(h28:tm.getD 28 undef=.int .i64 0) :
  Code.wp Pz.prog (after 10 cTwi) (TwiQ W) ⟨tm,[]⟩ W:=by
 have e:=tmps_lit (n:=250) (tm:=tm) hz
 obtain ⟨f,hf⟩:∃ f:Nat→Value,f=fun i=>tm.getD i undef:=⟨_,rfl⟩
 have e11:f 11=.pointer (some ⟨pb,0,none⟩):=by rw[hf];exact h11
 have e13:f 13=.pointer (some ⟨qb,0,none⟩):=by rw[hf];exact h13
 have e21:f 21=.string st:=by rw[hf];exact h21
 have e22:f 22=.int .i64 0:=by rw[hf];exact h22
 have e23:f 23=.string st:=by rw[hf];exact h23
 have e24:f 24=.int .i64 0:=by rw[hf];exact h24
 have e25:f 25=.pointer (some ⟨vb,0,none⟩):=by rw[hf];exact h25
 have e26:f 26=.int .i64 0:=by rw[hf];exact h26
 have e27:f 27=.pointer (some ⟨vc,0,none⟩):=by rw[hf];exact h27
 have e28:f 28=.int .i64 0:=by rw[hf];exact h28
 rw[← hf,lit250]at e
 subst e
 clear hf hz h11 h13 h21 h22 h23 h24 h25 h26 h27 h28
 have hve:=viewNe ph pl tn wa wn false
 have hvg:=viewGuard
 have a0:=hv1.cell (i:=0) rfl
 have b0:=hv2.cell (i:=0) rfl
 have a1:=hv1.cell (i:=1) rfl
 have b1:=hv2.cell (i:=1) rfl
 have a2:=hv1.cell (i:=2) rfl
 have b2:=hv2.cell (i:=2) rfl
 have a3:=hv1.cell (i:=3) rfl
 have b3:=hv2.cell (i:=3) rfl
 have a4:=hv1.cell (i:=4) rfl
 have b4:=hv2.cell (i:=4) rfl
 have a5:=hv1.cell (i:=5) rfl
 have b5:=hv2.cell (i:=5) rfl
 have hl1:=hv1.lt
 have hl2:=hv2.lt
 have held:∀ V,Below W.heap.size W V→(V.cell? ⟨pb,0,none⟩=some (.pointer (some ⟨hb1,0,none⟩))∧V.cell? ⟨pb,1,none⟩=some (.int .i64 m1)∧V.cell? ⟨pb,10,none⟩=some (.int .i64 u))∧(V.cell? ⟨qb,0,none⟩=some (.pointer (some ⟨hb2,0,none⟩))∧V.cell? ⟨qb,1,none⟩=some (.int .i64 m2)∧V.cell? ⟨qb,10,none⟩=some (.int .i64 u)):=fun V hV=>⟨⟨(h1.on hV).c0,(h1.on hV).c1,(h1.on hV).c10⟩,(h2.on hV).c0,(h2.on hV).c1,(h2.on hV).c10⟩
 have HH1:Hid (∀ V,Below W.heap.size W V→Calls Pz.prog 18 #[.pointer (some ⟨hb1,0,none⟩),.int .i64 m1,.int .i64 u] V fun e w3=>e=.returned (.tuple #[.string hx,.int .i64 0])∧(w3.cell? ⟨pb,0,none⟩=some (.pointer (some ⟨hb1,0,none⟩))∧w3.cell? ⟨pb,1,none⟩=some (.int .i64 m1)∧w3.cell? ⟨pb,10,none⟩=some (.int .i64 u))∧Hid (Below W.heap.size W w3)):=fun V hV=>(h1.hash V hV).mono fun e w3 ⟨he,hb⟩=>by
  have hb3:=hV.trans (hb.mono hV.size)
  exact ⟨he,(held w3 hb3).1,hb3⟩
 have HH2:Hid (∀ V,Below W.heap.size W V→Calls Pz.prog 18 #[.pointer (some ⟨hb2,0,none⟩),.int .i64 m2,.int .i64 u] V fun e w3=>e=.returned (.tuple #[.string hx,.int .i64 0])∧(w3.cell? ⟨qb,0,none⟩=some (.pointer (some ⟨hb2,0,none⟩))∧w3.cell? ⟨qb,1,none⟩=some (.int .i64 m2)∧w3.cell? ⟨qb,10,none⟩=some (.int .i64 u))∧Hid (Below W.heap.size W w3)):=fun V hV=>(h2.hash V hV).mono fun e w3 ⟨he,hb⟩=>by
  have hb3:=hV.trans (hb.mono hV.size)
  exact ⟨he,(held w3 hb3).2,hb3⟩
 have Held:=(show Hid _ from held)
 obtain ⟨⟨y0,y1,y2⟩,-⟩:=held W (Below.refl _ _)
 obtain ⟨⟨z0,z1,z2⟩,-⟩:=held W.drew (Below.refl _ _).drew
 have HLast:Hid (∀ V,Below W.heap.size W V→(V.cell? ⟨pb,8,none⟩=some (.slice (some ⟨sg1,0,none⟩) n1 cap1)∧V.cell? ⟨sg1,0,none⟩=some (.string s0))∧V.cell? ⟨qb,8,none⟩=some (.slice (some ⟨sg2,0,none⟩) n2 cap2)∧V.cell? ⟨sg2,0,none⟩=some (.string s0)):=fun V hV=>⟨⟨(h1.on hV).c8,(h1.on hV).t0⟩,(h2.on hV).c8,(h2.on hV).t0⟩
 have ho1:(0:Int)<n1:=by have:=h1.one;omega
 have ho2:(0:Int)<n2:=by have:=h2.one;omega
 clear held h1 h2 hv1 hv2
 simp only[cTwi,after,Tryz.f8,Option.getD,e11,e13,e21,e22,e23,e24,e25,e26,e27,e28]
 clear e11 e13 e21 e22 e23 e24 e25 e26 e27 e28
 go_wp2_with fail
 go_region_held3 (fun w'=>w'.cell? ⟨pb,0,none⟩=some (.pointer (some ⟨hb1,0,none⟩))∧w'.cell? ⟨pb,1,none⟩=some (.int .i64 m1)∧w'.cell? ⟨pb,10,none⟩=some (.int .i64 u)) (first|(with_reducible assumption)|(refine ⟨?_,?_,?_⟩<;>(with_reducible assumption))|go_keep) (first|(go_at_call 18;refine Calls.mono (HH1.out _ (Below.refl _ _).drew) ?_;rintro e w3 ⟨rfl,hqs,hb3⟩))
 clear y0 y1 y2 z0 z1 z2 hqs
 obtain ⟨-,y0,y1,y2⟩:=Held.out w3 hb3.out
 obtain ⟨-,z0,z1,z2⟩:=Held.out w3.drew hb3.out.drew
 go_wp2_with fail
 go_region_held3 (fun w'=>w'.cell? ⟨qb,0,none⟩=some (.pointer (some ⟨hb2,0,none⟩))∧w'.cell? ⟨qb,1,none⟩=some (.int .i64 m2)∧w'.cell? ⟨qb,10,none⟩=some (.int .i64 u)) (first|(with_reducible assumption)|(refine ⟨?_,?_,?_⟩<;>(with_reducible assumption))|go_keep) (first|(go_at_call 18;refine Calls.mono (HH2.out _ hb3.out.drew) ?_;rintro e w4 ⟨rfl,hqs,hb4⟩))
 clear y0 y1 y2 z0 z1 z2 hqs
 obtain ⟨⟨y0,y1⟩,z0,z1⟩:=HLast.out w4 hb4.out
 go_wp2_with fail
 go_quiet (fail)
 go_wp2_with fail
 exact ⟨rfl,rfl,rfl,⟨hb4.out.os,hb4.out.tape,hb4.out.output,hb4.out.size,hb4.out.block⟩⟩
theorem twi_b (h1:Shw W pb hb1 m1 u n1 sg1 cap1 st hx s0 ph pl tn wa wn)(h2:Shw W qb hb2 m2 u n2 sg2 cap2 st hx s0 ph pl tn wa wn)(hv1:BlkAt W vb [.int .i64 ph,.bool false,.int .i64 pl,.int .i64 tn,.int .i64 wa,.int .i64 wn] 46)(hz:tm.size=250)(h11:tm.getD 11 undef=.pointer (some ⟨pb,0,none⟩))(h13:tm.getD 13 undef=.pointer (some ⟨qb,0,none⟩))(h21:tm.getD 21 undef=.string st)(h22:tm.getD 22 undef=.int .i64 0)(h23:tm.getD 23 undef=.string st)(h24:tm.getD 24 undef=.int .i64 0)(h25:tm.getD 25 undef=.pointer (some ⟨vb,0,none⟩))(h26:tm.getD 26 undef=.int .i64 0) :
    Code.wp Pz.prog (after 9 cTwi) (TwiQ W) ⟨tm,[]⟩ W:=by
  have e:=tmps_lit (n:=250) (tm:=tm) hz
  obtain ⟨f,hf⟩:∃ f:Nat→Value,f=fun i=>tm.getD i undef:=⟨_,rfl⟩
  have e11:f 11=.pointer (some ⟨pb,0,none⟩):=by rw[hf];exact h11
  have e13:f 13=.pointer (some ⟨qb,0,none⟩):=by rw[hf];exact h13
  have e21:f 21=.string st:=by rw[hf];exact h21
  have e22:f 22=.int .i64 0:=by rw[hf];exact h22
  have e23:f 23=.string st:=by rw[hf];exact h23
  have e24:f 24=.int .i64 0:=by rw[hf];exact h24
  have e25:f 25=.pointer (some ⟨vb,0,none⟩):=by rw[hf];exact h25
  have e26:f 26=.int .i64 0:=by rw[hf];exact h26
  rw[← hf,lit250]at e
  subst e
  clear hf hz h11 h13 h21 h22 h23 h24 h25 h26
  have HB0:Hid (Below W.heap.size W (W.alloc (.cells #[.int .i64 0,.bool false,.int .i64 0,.int .i64 0,.int .i64 0,.int .i64 0] 46)).drew):=((Below.refl _ _).alloc (Nat.le_refl _) _).drew
  have HN0:Hid (BlkAt (W.alloc (.cells #[.int .i64 0,.bool false,.int .i64 0,.int .i64 0,.int .i64 0,.int .i64 0] 46)).drew W.heap.size viewZ 46):=BlkAt.new W viewZ _
  have HL0:Hid (∀ W',Below W.heap.size W W'→Calls Pz.prog 20 #[.pointer (some ⟨hb2,0,none⟩),.int .i64 m2] W' fun e w'=>e=.returned (.tuple #[.agg #[.int .i64 ph,.bool false,.int .i64 pl,.int .i64 tn,.int .i64 wa,.int .i64 wn],.int .i64 0])∧(w'.cell? ⟨qb,0,none⟩=some (.pointer (some ⟨hb2,0,none⟩))∧w'.cell? ⟨qb,1,none⟩=some (.int .i64 m2))∧Hid (Below W.heap.size W w')):=fun W' hW=>(h2.look W' hW).mono fun e w' ⟨he,hb⟩=>by
    have hb':=hW.trans (hb.mono hW.size)
    exact ⟨he,⟨(h2.on hb').c0,(h2.on hb').c1⟩,hb'⟩
  have HL1:Hid (∀ W' vx,Below W.heap.size W W'→BlkAt W' vx viewZ 46→Calls Pz.prog 20 #[.pointer (some ⟨hb2,0,none⟩),.int .i64 m2] W' fun e w'=>e=.returned (.tuple #[.agg #[.int .i64 ph,.bool false,.int .i64 pl,.int .i64 tn,.int .i64 wa,.int .i64 wn],.int .i64 0])∧(w'.cell? ⟨qb,0,none⟩=some (.pointer (some ⟨hb2,0,none⟩))∧w'.cell? ⟨qb,1,none⟩=some (.int .i64 m2))∧Hid (BlkAt w' vx viewZ 46)∧ViewAt w' vx∧Hid (Below W.heap.size W w')):=fun W' vx hW hv=>(h2.look W' hW).mono fun e w' ⟨he,hb⟩=>by
    have hb':=hW.trans (hb.mono hW.size)
    have hv':=hv.same (hb.block _ hv.lt)
    exact ⟨he,⟨(h2.on hb').c0,(h2.on hb').c1⟩,hv',hv'.view,hb'⟩
  have q0:=h2.c0
  have q1:=h2.c1
  have d0:W.drew.cell? ⟨qb,0,none⟩=some (.pointer (some ⟨hb2,0,none⟩)):=q0
  have d1:W.drew.cell? ⟨qb,1,none⟩=some (.int .i64 m2):=q1
  have hpl:qb<W.heap.size:=cell_lt q0
  have dl:qb<W.drew.heap.size:=hpl
  have HT:Hid (∀ (wd:World) (vx:Nat) (tm:Array Value),Below W.heap.size W wd→BlkAt wd vx [.int .i64 ph,.bool false,.int .i64 pl,.int .i64 tn,.int .i64 wa,.int .i64 wn] 46→tm.size=250→tm.getD 11 undef=.pointer (some ⟨pb,0,none⟩)→tm.getD 13 undef=.pointer (some ⟨qb,0,none⟩)→tm.getD 21 undef=.string st→tm.getD 22 undef=.int .i64 0→tm.getD 23 undef=.string st→tm.getD 24 undef=.int .i64 0→tm.getD 25 undef=.pointer (some ⟨vb,0,none⟩)→tm.getD 26 undef=.int .i64 0→tm.getD 27 undef=.pointer (some ⟨vx,0,none⟩)→tm.getD 28 undef=.int .i64 0→Code.wp Pz.prog (after 10 cTwi) (TwiQ W) ⟨tm,[]⟩ wd):=fun wd vx tm hb hv hz h11 h13 h21 h22 h23 h24 h25 h26 h27 h28=>wp_mono (twi_c (h1.on hb) (h2.on hb) (hv1.same (hb.block _ hv1.lt)) hv hz h11 h13 h21 h22 h23 h24 h25 h26 h27 h28) fun e a w' ⟨r1,r2,r3,r4⟩=>⟨r1,r2,r3,hb.trans (r4.mono hb.size)⟩
  clear h1 h2 hv1
  generalize hQQ:TwiQ W=QQ at *
  simp only[cTwi,after,Tryz.f8,Option.getD,e11,e13,e21,e22,e23,e24,e25,e26]
  clear e11 e13 e21 e22 e23 e24 e25 e26
  go_wp2_with fail
  go_region_held3 (fun w'=>w'.cell? ⟨qb,0,none⟩=some (.pointer (some ⟨hb2,0,none⟩))∧w'.cell? ⟨qb,1,none⟩=some (.int .i64 m2)) (first|(with_reducible assumption)|(refine ⟨?_,?_⟩<;>first|(with_reducible assumption)|(rw[World.cell?_alloc_past];(with_reducible assumption);first|exact dl|(with_reducible assumption))|(rw[cell_set6 _ _ _ _ _ _ _ _ _ _ (by omega)];(with_reducible assumption)))|go_keep) (first
    | (go_at_call 20;refine Calls.mono (HL0.out _ (by with_reducible exact (Below.refl _ _).drew)) ?_;rintro e w2 ⟨rfl,⟨p0',p1'⟩,hq⟩;have pl':qb<w2.heap.size:=Nat.lt_of_lt_of_le hpl hq.out.size)
    | (go_at_call 20;refine Calls.mono (HL1.out _ _ (by with_reducible exact HB0.out) (by with_reducible exact HN0.out)) ?_;rintro e w2 ⟨rfl,⟨p0',p1'⟩,hv,⟨v0,v1,v2,v3,v4,v5,z0,z1,z2,z3,z4,z5,vl⟩,hq⟩;have pl':qb<w2.heap.size:=Nat.lt_of_lt_of_le hpl hq.out.size))
  all_goals
    first
    | (have hV:BlkAt (w2.alloc (.cells #[.int .i64 ph,.bool false,.int .i64 pl,.int .i64 tn,.int .i64 wa,.int .i64 wn] 46)) w2.heap.size [.int .i64 ph,.bool false,.int .i64 pl,.int .i64 tn,.int .i64 wa,.int .i64 wn] 46:=BlkAt.new w2 [.int .i64 ph,.bool false,.int .i64 pl,.int .i64 tn,.int .i64 wa,.int .i64 wn] _
       have hB:Below W.heap.size W (w2.alloc (.cells #[.int .i64 ph,.bool false,.int .i64 pl,.int .i64 tn,.int .i64 wa,.int .i64 wn] 46)):=hq.out.alloc hq.out.size _
       obtain ⟨wd,hwd⟩:∃ x,x=(w2.alloc (.cells #[.int .i64 ph,.bool false,.int .i64 pl,.int .i64 tn,.int .i64 wa,.int .i64 wn] 46)):=⟨_,rfl⟩
       obtain ⟨vx,hvd⟩:∃ x,x=w2.heap.size:=⟨_,rfl⟩
       rw[← hwd]at hV hB ⊢
       rw[← hvd]at hV ⊢)
    | (have g0:BlkAt w2 W.heap.size viewZ 46:=(by with_reducible exact hv.out)
       have hV:BlkAt ((((((w2.setCell ⟨W.heap.size,0,none⟩ (.int .i64 ph)).setCell ⟨W.heap.size,1,none⟩ (.bool false)).setCell ⟨W.heap.size,2,none⟩ (.int .i64 pl)).setCell ⟨W.heap.size,3,none⟩ (.int .i64 tn)).setCell ⟨W.heap.size,4,none⟩ (.int .i64 wa)).setCell ⟨W.heap.size,5,none⟩ (.int .i64 wn)) W.heap.size [.int .i64 ph,.bool false,.int .i64 pl,.int .i64 tn,.int .i64 wa,.int .i64 wn] 46:=(((((g0.set 0 _).set 1 _).set 2 _).set 3 _).set 4 _).set 5 _
       have hB:Below W.heap.size W ((((((w2.setCell ⟨W.heap.size,0,none⟩ (.int .i64 ph)).setCell ⟨W.heap.size,1,none⟩ (.bool false)).setCell ⟨W.heap.size,2,none⟩ (.int .i64 pl)).setCell ⟨W.heap.size,3,none⟩ (.int .i64 tn)).setCell ⟨W.heap.size,4,none⟩ (.int .i64 wa)).setCell ⟨W.heap.size,5,none⟩ (.int .i64 wn)):=((((((hq.out.setCell (Nat.le_refl _) _).setCell (Nat.le_refl _) _).setCell (Nat.le_refl _) _).setCell (Nat.le_refl _) _).setCell (Nat.le_refl _) _).setCell (Nat.le_refl _) _)
       obtain ⟨wd,hwd⟩:∃ x,x=((((((w2.setCell ⟨W.heap.size,0,none⟩ (.int .i64 ph)).setCell ⟨W.heap.size,1,none⟩ (.bool false)).setCell ⟨W.heap.size,2,none⟩ (.int .i64 pl)).setCell ⟨W.heap.size,3,none⟩ (.int .i64 tn)).setCell ⟨W.heap.size,4,none⟩ (.int .i64 wa)).setCell ⟨W.heap.size,5,none⟩ (.int .i64 wn)):=⟨_,rfl⟩
       obtain ⟨vx,hvd⟩:∃ x,x=W.heap.size:=⟨_,rfl⟩
       rw[← hwd]at hV hB ⊢
       rw[← hvd]at hV ⊢)
    first
    | exact HT.out wd vx _ hB hV (by rfl) (by rfl) (by rfl) (by rfl) (by rfl) (by rfl) (by rfl) (by rfl) (by rfl) (by rfl) (by rfl)
    | (go_step;exact HT.out wd vx _ hB hV (by rfl) (by rfl) (by rfl) (by rfl) (by rfl) (by rfl) (by rfl) (by rfl) (by rfl) (by rfl) (by rfl))
    | (go_step;go_step;exact HT.out wd vx _ hB hV (by rfl) (by rfl) (by rfl) (by rfl) (by rfl) (by rfl) (by rfl) (by rfl) (by rfl) (by rfl) (by rfl))
theorem twi_a (h1:Shw W pb hb1 m1 u n1 sg1 cap1 st hx s0 ph pl tn wa wn)(h2:Shw W qb hb2 m2 u n2 sg2 cap2 st hx s0 ph pl tn wa wn)(hz:tm.size=250)(h11:tm.getD 11 undef=.pointer (some ⟨pb,0,none⟩))(h13:tm.getD 13 undef=.pointer (some ⟨qb,0,none⟩))(h21:tm.getD 21 undef=.string st)(h22:tm.getD 22 undef=.int .i64 0)(h23:tm.getD 23 undef=.string st)(h24:tm.getD 24 undef=.int .i64 0) :
    Code.wp Pz.prog (after 8 cTwi) (TwiQ W) ⟨tm,[]⟩ W:=by
  have e:=tmps_lit (n:=250) (tm:=tm) hz
  obtain ⟨f,hf⟩:∃ f:Nat→Value,f=fun i=>tm.getD i undef:=⟨_,rfl⟩
  have e11:f 11=.pointer (some ⟨pb,0,none⟩):=by rw[hf];exact h11
  have e13:f 13=.pointer (some ⟨qb,0,none⟩):=by rw[hf];exact h13
  have e21:f 21=.string st:=by rw[hf];exact h21
  have e22:f 22=.int .i64 0:=by rw[hf];exact h22
  have e23:f 23=.string st:=by rw[hf];exact h23
  have e24:f 24=.int .i64 0:=by rw[hf];exact h24
  rw[← hf,lit250]at e
  subst e
  clear hf hz h11 h13 h21 h22 h23 h24
  have HB0:Hid (Below W.heap.size W (W.alloc (.cells #[.int .i64 0,.bool false,.int .i64 0,.int .i64 0,.int .i64 0,.int .i64 0] 46)).drew):=((Below.refl _ _).alloc (Nat.le_refl _) _).drew
  have HN0:Hid (BlkAt (W.alloc (.cells #[.int .i64 0,.bool false,.int .i64 0,.int .i64 0,.int .i64 0,.int .i64 0] 46)).drew W.heap.size viewZ 46):=BlkAt.new W viewZ _
  have HL0:Hid (∀ W',Below W.heap.size W W'→Calls Pz.prog 20 #[.pointer (some ⟨hb1,0,none⟩),.int .i64 m1] W' fun e w'=>e=.returned (.tuple #[.agg #[.int .i64 ph,.bool false,.int .i64 pl,.int .i64 tn,.int .i64 wa,.int .i64 wn],.int .i64 0])∧(w'.cell? ⟨pb,0,none⟩=some (.pointer (some ⟨hb1,0,none⟩))∧w'.cell? ⟨pb,1,none⟩=some (.int .i64 m1))∧Hid (Below W.heap.size W w')):=fun W' hW=>(h1.look W' hW).mono fun e w' ⟨he,hb⟩=>by
    have hb':=hW.trans (hb.mono hW.size)
    exact ⟨he,⟨(h1.on hb').c0,(h1.on hb').c1⟩,hb'⟩
  have HL1:Hid (∀ W' vx,Below W.heap.size W W'→BlkAt W' vx viewZ 46→Calls Pz.prog 20 #[.pointer (some ⟨hb1,0,none⟩),.int .i64 m1] W' fun e w'=>e=.returned (.tuple #[.agg #[.int .i64 ph,.bool false,.int .i64 pl,.int .i64 tn,.int .i64 wa,.int .i64 wn],.int .i64 0])∧(w'.cell? ⟨pb,0,none⟩=some (.pointer (some ⟨hb1,0,none⟩))∧w'.cell? ⟨pb,1,none⟩=some (.int .i64 m1))∧Hid (BlkAt w' vx viewZ 46)∧ViewAt w' vx∧Hid (Below W.heap.size W w')):=fun W' vx hW hv=>(h1.look W' hW).mono fun e w' ⟨he,hb⟩=>by
    have hb':=hW.trans (hb.mono hW.size)
    have hv':=hv.same (hb.block _ hv.lt)
    exact ⟨he,⟨(h1.on hb').c0,(h1.on hb').c1⟩,hv',hv'.view,hb'⟩
  have q0:=h1.c0
  have q1:=h1.c1
  have d0:W.drew.cell? ⟨pb,0,none⟩=some (.pointer (some ⟨hb1,0,none⟩)):=q0
  have d1:W.drew.cell? ⟨pb,1,none⟩=some (.int .i64 m1):=q1
  have hpl:pb<W.heap.size:=cell_lt q0
  have dl:pb<W.drew.heap.size:=hpl
  have HT:Hid (∀ (wd:World) (vx:Nat) (tm:Array Value),Below W.heap.size W wd→BlkAt wd vx [.int .i64 ph,.bool false,.int .i64 pl,.int .i64 tn,.int .i64 wa,.int .i64 wn] 46→tm.size=250→tm.getD 11 undef=.pointer (some ⟨pb,0,none⟩)→tm.getD 13 undef=.pointer (some ⟨qb,0,none⟩)→tm.getD 21 undef=.string st→tm.getD 22 undef=.int .i64 0→tm.getD 23 undef=.string st→tm.getD 24 undef=.int .i64 0→tm.getD 25 undef=.pointer (some ⟨vx,0,none⟩)→tm.getD 26 undef=.int .i64 0→Code.wp Pz.prog (after 9 cTwi) (TwiQ W) ⟨tm,[]⟩ wd):=fun wd vx tm hb hv hz h11 h13 h21 h22 h23 h24 h25 h26=>wp_mono (twi_b (h1.on hb) (h2.on hb)  hv hz h11 h13 h21 h22 h23 h24 h25 h26) fun e a w' ⟨r1,r2,r3,r4⟩=>⟨r1,r2,r3,hb.trans (r4.mono hb.size)⟩
  clear h1 h2
  generalize hQQ:TwiQ W=QQ at *
  simp only[cTwi,after,Tryz.f8,Option.getD,e11,e13,e21,e22,e23,e24]
  clear e11 e13 e21 e22 e23 e24
  go_wp2_with fail
  go_region_held3 (fun w'=>w'.cell? ⟨pb,0,none⟩=some (.pointer (some ⟨hb1,0,none⟩))∧w'.cell? ⟨pb,1,none⟩=some (.int .i64 m1)) (first|(with_reducible assumption)|(refine ⟨?_,?_⟩<;>first|(with_reducible assumption)|(rw[World.cell?_alloc_past];(with_reducible assumption);first|exact dl|(with_reducible assumption))|(rw[cell_set6 _ _ _ _ _ _ _ _ _ _ (by omega)];(with_reducible assumption)))|go_keep) (first
    | (go_at_call 20;refine Calls.mono (HL0.out _ (by with_reducible exact (Below.refl _ _).drew)) ?_;rintro e w2 ⟨rfl,⟨p0',p1'⟩,hq⟩;have pl':pb<w2.heap.size:=Nat.lt_of_lt_of_le hpl hq.out.size)
    | (go_at_call 20;refine Calls.mono (HL1.out _ _ (by with_reducible exact HB0.out) (by with_reducible exact HN0.out)) ?_;rintro e w2 ⟨rfl,⟨p0',p1'⟩,hv,⟨v0,v1,v2,v3,v4,v5,z0,z1,z2,z3,z4,z5,vl⟩,hq⟩;have pl':pb<w2.heap.size:=Nat.lt_of_lt_of_le hpl hq.out.size))
  all_goals
    first
    | (have hV:BlkAt (w2.alloc (.cells #[.int .i64 ph,.bool false,.int .i64 pl,.int .i64 tn,.int .i64 wa,.int .i64 wn] 46)) w2.heap.size [.int .i64 ph,.bool false,.int .i64 pl,.int .i64 tn,.int .i64 wa,.int .i64 wn] 46:=BlkAt.new w2 [.int .i64 ph,.bool false,.int .i64 pl,.int .i64 tn,.int .i64 wa,.int .i64 wn] _
       have hB:Below W.heap.size W (w2.alloc (.cells #[.int .i64 ph,.bool false,.int .i64 pl,.int .i64 tn,.int .i64 wa,.int .i64 wn] 46)):=hq.out.alloc hq.out.size _
       obtain ⟨wd,hwd⟩:∃ x,x=(w2.alloc (.cells #[.int .i64 ph,.bool false,.int .i64 pl,.int .i64 tn,.int .i64 wa,.int .i64 wn] 46)):=⟨_,rfl⟩
       obtain ⟨vx,hvd⟩:∃ x,x=w2.heap.size:=⟨_,rfl⟩
       rw[← hwd]at hV hB ⊢
       rw[← hvd]at hV ⊢)
    | (have g0:BlkAt w2 W.heap.size viewZ 46:=(by with_reducible exact hv.out)
       have hV:BlkAt ((((((w2.setCell ⟨W.heap.size,0,none⟩ (.int .i64 ph)).setCell ⟨W.heap.size,1,none⟩ (.bool false)).setCell ⟨W.heap.size,2,none⟩ (.int .i64 pl)).setCell ⟨W.heap.size,3,none⟩ (.int .i64 tn)).setCell ⟨W.heap.size,4,none⟩ (.int .i64 wa)).setCell ⟨W.heap.size,5,none⟩ (.int .i64 wn)) W.heap.size [.int .i64 ph,.bool false,.int .i64 pl,.int .i64 tn,.int .i64 wa,.int .i64 wn] 46:=(((((g0.set 0 _).set 1 _).set 2 _).set 3 _).set 4 _).set 5 _
       have hB:Below W.heap.size W ((((((w2.setCell ⟨W.heap.size,0,none⟩ (.int .i64 ph)).setCell ⟨W.heap.size,1,none⟩ (.bool false)).setCell ⟨W.heap.size,2,none⟩ (.int .i64 pl)).setCell ⟨W.heap.size,3,none⟩ (.int .i64 tn)).setCell ⟨W.heap.size,4,none⟩ (.int .i64 wa)).setCell ⟨W.heap.size,5,none⟩ (.int .i64 wn)):=((((((hq.out.setCell (Nat.le_refl _) _).setCell (Nat.le_refl _) _).setCell (Nat.le_refl _) _).setCell (Nat.le_refl _) _).setCell (Nat.le_refl _) _).setCell (Nat.le_refl _) _)
       obtain ⟨wd,hwd⟩:∃ x,x=((((((w2.setCell ⟨W.heap.size,0,none⟩ (.int .i64 ph)).setCell ⟨W.heap.size,1,none⟩ (.bool false)).setCell ⟨W.heap.size,2,none⟩ (.int .i64 pl)).setCell ⟨W.heap.size,3,none⟩ (.int .i64 tn)).setCell ⟨W.heap.size,4,none⟩ (.int .i64 wa)).setCell ⟨W.heap.size,5,none⟩ (.int .i64 wn)):=⟨_,rfl⟩
       obtain ⟨vx,hvd⟩:∃ x,x=W.heap.size:=⟨_,rfl⟩
       rw[← hwd]at hV hB ⊢
       rw[← hvd]at hV ⊢)
    first
    | exact HT.out wd vx _ hB hV (by rfl) (by rfl) (by rfl) (by rfl) (by rfl) (by rfl) (by rfl) (by rfl) (by rfl)
    | (go_step;exact HT.out wd vx _ hB hV (by rfl) (by rfl) (by rfl) (by rfl) (by rfl) (by rfl) (by rfl) (by rfl) (by rfl))
    | (go_step;go_step;exact HT.out wd vx _ hB hV (by rfl) (by rfl) (by rfl) (by rfl) (by rfl) (by rfl) (by rfl) (by rfl) (by rfl))
theorem twins_rest (h1:Shw W pb hb1 m1 u n1 sg1 cap1 st hx s0 ph pl tn wa wn)(h2:Shw W qb hb2 m2 u n2 sg2 cap2 st hx s0 ph pl tn wa wn)(hz:tm.size=250)(h11:tm.getD 11 undef=.pointer (some ⟨pb,0,none⟩))(h13:tm.getD 13 undef=.pointer (some ⟨qb,0,none⟩)) :
  Code.wp Pz.prog (after 6 cTwi) (TwiQ W) ⟨tm,[]⟩ W:=by
 have e:=tmps_lit (n:=250) (tm:=tm) hz
 obtain ⟨f,hf⟩:∃ f:Nat→Value,f=fun i=>tm.getD i undef:=⟨_,rfl⟩
 have e11:f 11=.pointer (some ⟨pb,0,none⟩):=by rw[hf];exact h11
 have e13:f 13=.pointer (some ⟨qb,0,none⟩):=by rw[hf];exact h13
 rw[← hf,lit250]at e
 subst e
 clear hf hz h11 h13
 have held:∀ V,Below W.heap.size W V→(V.cell? ⟨pb,0,none⟩=some (.pointer (some ⟨hb1,0,none⟩))∧V.cell? ⟨pb,1,none⟩=some (.int .i64 m1))∧(V.cell? ⟨qb,0,none⟩=some (.pointer (some ⟨hb2,0,none⟩))∧V.cell? ⟨qb,1,none⟩=some (.int .i64 m2)):=fun V hV=>⟨⟨(h1.on hV).c0,(h1.on hV).c1⟩,(h2.on hV).c0,(h2.on hV).c1⟩
 have HS1:Hid (∀ V,Below W.heap.size W V→Calls Pz.prog 19 #[.pointer (some ⟨hb1,0,none⟩),.int .i64 m1] V fun e w3=>e=.returned (.tuple #[.string st,.int .i64 0])∧(w3.cell? ⟨pb,0,none⟩=some (.pointer (some ⟨hb1,0,none⟩))∧w3.cell? ⟨pb,1,none⟩=some (.int .i64 m1))∧Hid (Below W.heap.size W w3)):=fun V hV=>(h1.state V hV).mono fun e w3 ⟨he,hb⟩=>by
  have hb3:=hV.trans (hb.mono hV.size)
  exact ⟨he,(held w3 hb3).1,hb3⟩
 have HS2:Hid (∀ V,Below W.heap.size W V→Calls Pz.prog 19 #[.pointer (some ⟨hb2,0,none⟩),.int .i64 m2] V fun e w3=>e=.returned (.tuple #[.string st,.int .i64 0])∧(w3.cell? ⟨qb,0,none⟩=some (.pointer (some ⟨hb2,0,none⟩))∧w3.cell? ⟨qb,1,none⟩=some (.int .i64 m2))∧Hid (Below W.heap.size W w3)):=fun V hV=>(h2.state V hV).mono fun e w3 ⟨he,hb⟩=>by
  have hb3:=hV.trans (hb.mono hV.size)
  exact ⟨he,(held w3 hb3).2,hb3⟩
 have HT:Hid (∀ (wd:World) (tm:Array Value),Below W.heap.size W wd→tm.size=250→tm.getD 11 undef=.pointer (some ⟨pb,0,none⟩)→tm.getD 13 undef=.pointer (some ⟨qb,0,none⟩)→tm.getD 21 undef=.string st→tm.getD 22 undef=.int .i64 0→tm.getD 23 undef=.string st→tm.getD 24 undef=.int .i64 0→Code.wp Pz.prog (after 8 cTwi) (TwiQ W) ⟨tm,[]⟩ wd):=fun wd tm hb hz h11 h13 h21 h22 h23 h24=>wp_mono (twi_a (h1.on hb) (h2.on hb) hz h11 h13 h21 h22 h23 h24) fun e a w' ⟨r1,r2,r3,r4⟩=>⟨r1,r2,r3,hb.trans (r4.mono hb.size)⟩
 have Held:=(show Hid _ from held)
 obtain ⟨⟨y0,y1⟩,-⟩:=held W (Below.refl _ _)
 obtain ⟨⟨z0,z1⟩,-⟩:=held W.drew (Below.refl _ _).drew
 clear held h1 h2
 generalize hQQ:TwiQ W=QQ at *
 simp only[cTwi,after,Tryz.f8,Option.getD,e11,e13]
 clear e11 e13
 go_wp2_with fail
 go_region_held3 (fun w'=>w'.cell? ⟨pb,0,none⟩=some (.pointer (some ⟨hb1,0,none⟩))∧w'.cell? ⟨pb,1,none⟩=some (.int .i64 m1)) (first|(with_reducible assumption)|(refine ⟨?_,?_⟩<;>(with_reducible assumption))|go_keep) (first|(go_at_call 19;refine Calls.mono (HS1.out _ (Below.refl _ _).drew) ?_;rintro e w3 ⟨rfl,hqs,hb3⟩))
 clear y0 y1 z0 z1 hqs
 obtain ⟨-,y0,y1⟩:=Held.out w3 hb3.out
 obtain ⟨-,z0,z1⟩:=Held.out w3.drew hb3.out.drew
 go_wp2_with fail
 go_region_held3 (fun w'=>w'.cell? ⟨qb,0,none⟩=some (.pointer (some ⟨hb2,0,none⟩))∧w'.cell? ⟨qb,1,none⟩=some (.int .i64 m2)) (first|(with_reducible assumption)|(refine ⟨?_,?_⟩<;>(with_reducible assumption))|go_keep) (first|(go_at_call 19;refine Calls.mono (HS2.out _ hb3.out.drew) ?_;rintro e w4 ⟨rfl,hqs,hb4⟩))
 first
 | exact HT.out w4 _ hb4.out (by rfl) (by rfl) (by rfl) (by rfl) (by rfl) (by rfl) (by rfl)
 | (go_step;exact HT.out w4 _ hb4.out (by rfl) (by rfl) (by rfl) (by rfl) (by rfl) (by rfl) (by rfl))
 | (go_step;go_step;exact HT.out w4 _ hb4.out (by rfl) (by rfl) (by rfl) (by rfl) (by rfl) (by rfl) (by rfl))
end
end Go.Proofs.YtdianedehhecoaaGreatDoor