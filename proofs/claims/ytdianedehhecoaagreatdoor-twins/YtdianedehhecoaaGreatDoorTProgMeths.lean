/- The program's hit, of each kind, and what a kind does not do. -/
import Derived.Test.YtdianedehhecoaaGreatDoorTProgDrops
import Derived.Deep.RegionWith
set_option linter.unusedVariables false
set_option linter.unusedSimpArgs false
set_option maxHeartbeats 2000000
set_option maxRecDepth 100000
namespace Go.Proofs.YtdianedehhecoaaGreatDoor
open Go.RowKit
def ActPost (O:Nat→Prop)(w:World)(b g:Nat)(gv:Value)(r:PS × List Nat × Bool)(e:Ending)(w':World):Prop :=
 e=.returned (.bool r.2.2)∧(∃ uv',uv'.ownBlock=some g∧PAt w' O b r.1 gv uv' r.2.1)∧Keep O w w'
theorem hitBase_any {w:World}{O:Nat→Prop}{b g k:Nat}{S:PS}{gv uv:Value}{bs:List Nat}(x y:Int)(h:PAt w O b S gv uv bs)(hob:uv.ownBlock=some g)(hn:S.units.length≤1000)(hk:k<S.units.length)
  (hhp:∀ i,i<S.units.length→-100≤(S.units.getD i pu0).hp∧(S.units.getD i pu0).hp≤100) :
  Calls Pz.prog 257 #[.pointer (some ⟨bs.getD k 0,0,none⟩),.pointer (some ⟨b,0,none⟩),.agg #[.int .i64 x,.int .i64 y]] w (ActPost O w b g gv (strikeF S bs k x y 2)):=by
 have hs:∀ W,Below w.heap.size w W→Calls Pz.prog 261 #[.pointer (some ⟨bs.getD k 0,0,none⟩),.pointer (some ⟨b,0,none⟩),.agg #[.int .i64 x,.int .i64 y],.int .i64 2] W (ActPost O w b g gv (strikeF S bs k x y 2)):=fun W hW =>
  (strike_any x y 2 (h.below hW) hob hn hk (by omega) (by omega) hhp).mono fun e w' ⟨a1,a2,a3⟩=>⟨a1,a2,((Keep.ofBelow hW).mono (O':=O) (fun j hj=>.inr hj)).trans a3 (fun _ q=>.inl q)⟩
 have HH:=(show Hid _ from hs)
 have ha:Below w.heap.size w (w.alloc (.cells #[.int .i64 x,.int .i64 y] 157)):=(Below.refl _ _).alloc (Nat.le_refl _) _
 clear h hs hhp
 generalize bs.getD k 0=bk at *
 go_enter Pz.func257,Tryz.ntmps257
 go_wp2_with fail
 go_region_with (go_at_call 261;refine Calls.mono (HH.out _ (Below.drew ha)) ?_;rintro e w1 ⟨rfl,h1⟩)
 all_goals
  have H1:=(show Hid _ from h1)
  clear h1
  go_wp2
  go_ret
  exact ⟨rfl,H1.out⟩
theorem hitWorker_any {w:World}{O:Nat→Prop}{b g k:Nat}{S:PS}{gv uv:Value}{bs:List Nat}(x y:Int)(h:PAt w O b S gv uv bs)(hob:uv.ownBlock=some g)(hn:S.units.length≤1000)(hk:k<S.units.length)
  (hhp:∀ i,i<S.units.length→-100≤(S.units.getD i pu0).hp∧(S.units.getD i pu0).hp≤100) :
  Calls Pz.prog 265 #[.pointer (some ⟨bs.getD k 0,0,none⟩),.pointer (some ⟨b,0,none⟩),.agg #[.int .i64 x,.int .i64 y]] w (ActPost O w b g gv (strikeF S bs k x y 1)):=by
 have hs:∀ W,Below w.heap.size w W→Calls Pz.prog 261 #[.pointer (some ⟨bs.getD k 0,0,none⟩),.pointer (some ⟨b,0,none⟩),.agg #[.int .i64 x,.int .i64 y],.int .i64 1] W (ActPost O w b g gv (strikeF S bs k x y 1)):=fun W hW =>
  (strike_any x y 1 (h.below hW) hob hn hk (by omega) (by omega) hhp).mono fun e w' ⟨a1,a2,a3⟩=>⟨a1,a2,((Keep.ofBelow hW).mono (O':=O) (fun j hj=>.inr hj)).trans a3 (fun _ q=>.inl q)⟩
 have HH:=(show Hid _ from hs)
 have ha:Below w.heap.size w (w.alloc (.cells #[.int .i64 x,.int .i64 y] 157)):=(Below.refl _ _).alloc (Nat.le_refl _) _
 clear h hs hhp
 generalize bs.getD k 0=bk at *
 go_enter Pz.func265,Tryz.ntmps265
 go_wp2_with fail
 go_region_with (go_at_call 261;refine Calls.mono (HH.out _ (Below.drew ha)) ?_;rintro e w1 ⟨rfl,h1⟩)
 all_goals
  have H1:=(show Hid _ from h1)
  clear h1
  go_wp2
  go_ret
  exact ⟨rfl,H1.out⟩
theorem hitSoldier_any {w:World}{O:Nat→Prop}{b g k:Nat}{S:PS}{gv uv:Value}{bs:List Nat}(x y:Int)(h:PAt w O b S gv uv bs)(hob:uv.ownBlock=some g)(hn:S.units.length≤1000)(hk:k<S.units.length)
  (hhp:∀ i,i<S.units.length→-100≤(S.units.getD i pu0).hp∧(S.units.getD i pu0).hp≤100) :
  Calls Pz.prog 268 #[.pointer (some ⟨bs.getD k 0,0,none⟩),.pointer (some ⟨b,0,none⟩),.agg #[.int .i64 x,.int .i64 y]] w (ActPost O w b g gv (strikeF S bs k x y 3)):=by
 have hs:∀ W,Below w.heap.size w W→Calls Pz.prog 261 #[.pointer (some ⟨bs.getD k 0,0,none⟩),.pointer (some ⟨b,0,none⟩),.agg #[.int .i64 x,.int .i64 y],.int .i64 3] W (ActPost O w b g gv (strikeF S bs k x y 3)):=fun W hW =>
  (strike_any x y 3 (h.below hW) hob hn hk (by omega) (by omega) hhp).mono fun e w' ⟨a1,a2,a3⟩=>⟨a1,a2,((Keep.ofBelow hW).mono (O':=O) (fun j hj=>.inr hj)).trans a3 (fun _ q=>.inl q)⟩
 have HH:=(show Hid _ from hs)
 have ha:Below w.heap.size w (w.alloc (.cells #[.int .i64 x,.int .i64 y] 157)):=(Below.refl _ _).alloc (Nat.le_refl _) _
 clear h hs hhp
 generalize bs.getD k 0=bk at *
 go_enter Pz.func268,Tryz.ntmps268
 go_wp2_with fail
 go_region_with (go_at_call 261;refine Calls.mono (HH.out _ (Below.drew ha)) ?_;rintro e w1 ⟨rfl,h1⟩)
 all_goals
  have H1:=(show Hid _ from h1)
  clear h1
  go_wp2
  go_ret
  exact ⟨rfl,H1.out⟩
theorem moveBase_any (ub b:Nat)(x y:Int)(w:World) :
  Calls Pz.prog 258 #[.pointer (some ⟨ub,0,none⟩),.pointer (some ⟨b,0,none⟩),.agg #[.int .i64 x,.int .i64 y]] w fun e w'=>e=.returned (.bool false)∧Below w.heap.size w w':=by
 go_enter Pz.func258,Tryz.ntmps258
 go_wp2
 go_ret
 exact ⟨rfl,by repeat first|exact Below.refl _ _|refine Below.alloc ?_ (by simp) _⟩
theorem digBody_any (ub b:Nat)(x y:Int)(w:World) :
  Calls Pz.prog 251 #[.pointer (some ⟨ub,0,none⟩),.pointer (some ⟨b,0,none⟩),.agg #[.int .i64 x,.int .i64 y]] w fun e w'=>e=.returned (.bool false)∧Below w.heap.size w w':=by
 go_enter Pz.func251,Tryz.ntmps251
 go_wp2
 go_ret
 exact ⟨rfl,by repeat first|exact Below.refl _ _|refine Below.alloc ?_ (by simp) _⟩
theorem hireBody_any (ub b:Nat)(x y:Int)(w:World) :
  Calls Pz.prog 252 #[.pointer (some ⟨ub,0,none⟩),.pointer (some ⟨b,0,none⟩),.agg #[.int .i64 x,.int .i64 y]] w fun e w'=>e=.returned (.bool false)∧Below w.heap.size w w':=by
 go_enter Pz.func252,Tryz.ntmps252
 go_wp2
 go_ret
 exact ⟨rfl,by repeat first|exact Below.refl _ _|refine Below.alloc ?_ (by simp) _⟩
theorem trainBody_any (ub b:Nat)(x y:Int)(w:World) :
  Calls Pz.prog 254 #[.pointer (some ⟨ub,0,none⟩),.pointer (some ⟨b,0,none⟩),.agg #[.int .i64 x,.int .i64 y]] w fun e w'=>e=.returned (.bool false)∧Below w.heap.size w w':=by
 go_enter Pz.func254,Tryz.ntmps254
 go_wp2
 go_ret
 exact ⟨rfl,by repeat first|exact Below.refl _ _|refine Below.alloc ?_ (by simp) _⟩
end Go.Proofs.YtdianedehhecoaaGreatDoor
/- The program's dig: ore and gold are written. -/
namespace Go.Proofs.YtdianedehhecoaaGreatDoor
open Go.RowKit
theorem PAt.cGold {w:World}{O:Nat→Prop}{b:Nat}{S:PS}{gv uv:Value}{bs:List Nat}(h:PAt w O b S gv uv bs):w.cell? ⟨b,2,none⟩=some gv:=h.st.cell rfl
theorem PAt.cOre {w:World}{O:Nat→Prop}{b:Nat}{S:PS}{gv uv:Value}{bs:List Nat}(h:PAt w O b S gv uv bs){i:Nat}(hi:i<64):w.cell? ⟨b,3+i,none⟩=some (.int .i64 (S.ore.getD i 0)):=by
 have hl:=h.ore
 refine h.st.cell ?_
 unfold pCells
 rw[List.getElem?_append_left (by simp;omega),List.getElem?_append_right (by simp)]
 simp[List.getD,List.getElem?_eq_getElem (show i<S.ore.length by omega)]
theorem pCells_ore (S:PS)(gv uv:Value)(i:Nat)(n:Int)(hl:S.ore.length=64)(hi:i<64):(pCells S gv uv).set (3+i) (.int .i64 n)=pCells { S with ore:=S.ore.set i n } gv uv:=by
 unfold pCells
 rw[List.set_append_left _ _ (by simp;omega),List.set_append_right _ _ (by simp)]
 simp[List.map_set]
theorem PAt.setOre {w:World}{O:Nat→Prop}{b:Nat}{S:PS}{gv uv:Value}{bs:List Nat}(h:PAt w O b S gv uv bs)(i:Nat)(hi:i<64)(n:Int):PAt (w.setCell ⟨b,3+i,none⟩ (.int .i64 n)) O b { S with ore:=S.ore.set i n } gv uv bs :=
 ⟨by simp[h.ore],h.blen,by have:=h.st.set (3+i) (.int .i64 n);rwa [pCells_ore S gv uv i n h.ore hi]at this,h.gold.other (fun e=>(h.og b e).2 rfl),h.units.other (fun e=>(h.ou b e).2.1 rfl),
  fun k hk=>(h.each k hk).other (fun e=>by
   have hl:=h.blen
   have hk':k<S.units.length:=hk
   exact (h.oe (bs.getD k 0) (by simp[List.getD,List.getElem?_eq_getElem (show k<bs.length by omega)])).2.1 e),h.kinds,h.nodup,h.ob,h.og,h.ou,h.oe⟩
theorem PAt.setGold {w:World}{O:Nat→Prop}{b g:Nat}{S:PS}{gv uv:Value}{bs:List Nat}(h:PAt w O b S gv uv bs)(hg:gv.ownBlock=some g)(i:Nat)(n:Int):PAt (w.setCell ⟨g,i,none⟩ (.int .i64 n)) O b { S with gold:=S.gold.set i n } gv uv bs:=by
 have ho:=h.og g hg
 refine ⟨h.ore,h.blen,h.st.other (fun e=>ho.2 e.symm),?_,h.units.other (fun e=>(h.ou g e).2.2 hg),fun k hk=>(h.each k hk).other (fun e=>by
   have hl:=h.blen
   have hk':k<S.units.length:=hk
   exact (h.oe (bs.getD k 0) (by simp[List.getD,List.getElem?_eq_getElem (show k<bs.length by omega)])).2.2.1 (e▸hg)),h.kinds,h.nodup,h.ob,h.og,h.ou,h.oe⟩
 have:=h.gold.set hg i (.int .i64 n)
 show RowAt _ _ _ _ (S.gold.set i n).length ((S.gold.set i n).map _)
 rw[List.length_set,List.map_set]
 exact this
theorem PAt.goldCells {w:World}{O:Nat→Prop}{b:Nat}{S:PS}{gv uv:Value}{bs:List Nat}(h:PAt w O b S gv uv bs)(h0:0<S.gold.length) :
  ∃ g cap,gv=.slice (some ⟨g,0,none⟩) S.gold.length cap∧gv.ownBlock=some g∧(∀ i,w.frozen? ⟨g,i,none⟩=false) ∧
   ∀ k,k<S.gold.length→w.cell? ⟨g,k,none⟩=some (.int .i64 (S.gold.getD k 0)):=by
 obtain ⟨g,cap,he,ho,-,-,hc,hf⟩:=h.gold.form h0
 refine ⟨g,cap,he,ho,hf,fun k hk=>hc _ _ ?_⟩
 simp[List.getD,List.getElem?_eq_getElem hk]
def digF (S:PS)(bs:List Nat)(k:Nat)(x y:Int):PS × List Nat × Bool :=
 if S.ore.getD (8*y+x).toNat 0=0 then (S,bs,false)
 else ({ S with ore:=S.ore.set (8*y+x).toNat (S.ore.getD (8*y+x).toNat 0-1),gold:=S.gold.set (S.units.getD k pu0).own.toNat (S.gold.getD (S.units.getD k pu0).own.toNat 0+1) },bs,true)
theorem dig_any {w:World}{O:Nat→Prop}{b g k:Nat}{S:PS}{gv uv:Value}{bs:List Nat}(x y:Int)(h:PAt w O b S gv uv bs)(hob:uv.ownBlock=some g)(hk:k<S.units.length)
  (hx0:0≤x)(hx7:x≤7)(hy0:0≤y)(hy7:y≤7)(o0:0≤(S.units.getD k pu0).own)(o1:(S.units.getD k pu0).own<S.gold.length)(hg4:S.gold.length≤4)
  (hgb:∀ i,0≤S.gold.getD i 0∧S.gold.getD i 0≤1000)(hoB:∀ i,0≤S.ore.getD i 0∧S.ore.getD i 0≤1000) :
  Calls Pz.prog 264 #[.pointer (some ⟨bs.getD k 0,0,none⟩),.pointer (some ⟨b,0,none⟩),.agg #[.int .i64 x,.int .i64 y]] w (ActPost O w b g gv (digF S bs k x y)):=by
 have hbl:=h.st.lt
 have hul:=(h.each k hk).lt
 have d1:w.cell? ⟨bs.getD k 0,1,none⟩=some (.int .i64 (S.units.getD k pu0).own):=(h.each k hk).cell rfl
 obtain ⟨gg,gcap,hgv,gob,gfr,gc⟩:=h.goldCells (by omega)
 subst hgv
 have hgold:=h.cGold
 have ggl:=h.gold.lt gob
 have gne:=(h.og gg gob).2
 have gO:=(h.og gg gob).1
 have bO:=h.ob
 obtain ⟨X,rfl⟩:=Int.eq_ofNat_of_zero_le hx0
 obtain ⟨Y,rfl⟩:=Int.eq_ofNat_of_zero_le hy0
 have hX8:X<8:=by omega
 have hY8:Y<8:=by omega
 obtain ⟨z,hz⟩:∃ z:Nat,z=Y*8+X:=⟨_,rfl⟩
 have hz64:z<64:=by omega
 have ez:3+z=3+Y*8+X:=by omega
 have hore:=h.cOre hz64
 have ofr:=h.st.free (3+z)
 rw[ez]at hore ofr
 obtain ⟨ob1,ob2⟩:=hoB z
 obtain ⟨a,ha⟩:=Int.eq_ofNat_of_zero_le o0
 have hal:a<S.gold.length:=by omega
 have gc1:=gc a hal
 obtain ⟨gb1,gb2⟩:=hgb a
 have gf:=gfr a
 have HD:Hid (digF S bs k X Y=if S.ore.getD z 0=0 then (S,bs,false) else ({ S with ore:=S.ore.set z (S.ore.getD z 0-1),gold:=S.gold.set a (S.gold.getD a 0+1) },bs,true)):=by
  have e1:(8*(Y:Int)+(X:Int)).toNat=z:=by omega
  simp only[digF,Hid,e1,ha]
  simp
 have HA:Hid ((S.units.getD k pu0).own=(a:Int)):=ha
 have HH:=(show Hid _ from h)
 have HZ:Hid (z=Y*8+X):=hz
 rw[ha]at d1 o0 o1
 clear h gc gfr hgb hoB ha hz
 generalize S.ore.getD z 0=oz at *
 generalize hga:S.gold.getD a 0=ga at *
 have HG:Hid (S.gold.getD a 0=ga):=hga
 clear hga
 generalize hbk:bs.getD k 0=bk at *
 have HU:Hid (bs.getD k 0=bk):=hbk
 clear hbk
 go_enter Pz.func264,Tryz.ntmps264
 go_wp2
 go_quiet (fail)
 have hb0:=HH.out.below (bel_drewN ((Below.refl w.heap.size w).alloc (Nat.le_refl _) (.cells #[.int .i64 X,.int .i64 Y] 157)) nq)
 by_cases ho:oz=0
 ·have hbz:(oz == 0)=true:=beq_iff_eq.2 ho
  have HS2:Hid (digF S bs k X Y=(S,bs,false)):=by unfold Hid;rw[HD.out,if_pos ho]
  have Hb0:=(show Hid _ from hb0)
  clear ho HD hb0
  go_wp2
  go_ret
  rw[HS2.out]
  exact ⟨rfl,⟨_,hob,Hb0.out⟩,((Keep.refl _ _).alloc _).drewN _⟩
 ·have hbz:(oz == 0)=false:=beq_eq_false_iff_ne.2 ho
  have HS2:Hid (digF S bs k X Y=({ S with ore:=S.ore.set z (oz-1),gold:=S.gold.set a (ga+1) },bs,true)):=by unfold Hid;rw[HD.out,if_neg ho]
  have h1:=hb0.setOre z hz64 (oz-1)
  rw[ez]at h1
  have k1:Keep O w (((w.alloc (.cells #[.int .i64 X,.int .i64 Y] 157)).drewN nq).setCell ⟨b,3+Y*8+X,none⟩ (.int .i64 (oz-1))):=(((Keep.refl _ _).alloc _).drewN _).set (.inl bO)
  have H1:=(show Hid _ from h1)
  have K1:=(show Hid _ from k1)
  clear ho HD hb0 h1 k1
  go_wp2
  have h1:=H1.out
  have k1:=K1.out
  clear H1 K1
  revert h1 k1
  generalize (((w.alloc (.cells #[.int .i64 X,.int .i64 Y] 157)).drewN nq).setCell ⟨b,3+Y*8+X,none⟩ (.int .i64 (oz-1)))=w1
  intro h1 k1
  have c2:=h1.cGold
  have d2:w1.cell? ⟨bk,1,none⟩=some (.int .i64 (S.units.getD k pu0).own):=by rw[← HU.out];exact (h1.each k hk).cell rfl
  rw[HA.out]at d2
  obtain ⟨gg',gcap',hgv',gob',gfr,gc⟩:=h1.goldCells (by show 0<S.gold.length;omega)
  obtain ⟨rfl⟩:gg=gg':=by rw[gob]at gob';exact Option.some.inj gob'
  have gc2:=gc a hal
  have gf2:=gfr a
  have hga:S.gold.getD a 0=ga:=HG.out
  have gc3:w1.cell? ⟨gg,a,none⟩=some (.int .i64 ga):=by rw[← hga];exact gc2
  have H1:=(show Hid _ from h1)
  have K1:=(show Hid _ from k1)
  clear h1 k1 gc gfr gc2 hga hgv' gob' hore ofr gc1 gf hgold d1
  go_region
  go_wp2
  go_ret
  rw[HS2.out]
  exact ⟨rfl,⟨_,hob,(H1.out.setGold gob a (ga+1)).below (Below.refl _ _).drew⟩,(K1.out.set (.inl gO)).drew⟩
end Go.Proofs.YtdianedehhecoaaGreatDoor
/- Which function a unit's method is, by its kind; the turn and the last number are written. -/
namespace Go.Proofs.YtdianedehhecoaaGreatDoor
open Go.RowKit
theorem meth_base_move (ub : Nat) (w : World) : (method 449 236 (.pointer (some ⟨ub, 0, none⟩)) "garrison/rules.move").run Pz.prog w = .ok (258, .pointer (some ⟨ub, 0, none⟩)) w := by kernel_rfl
theorem meth_base_hit (ub : Nat) (w : World) : (method 449 236 (.pointer (some ⟨ub, 0, none⟩)) "garrison/rules.hit").run Pz.prog w = .ok (257, .pointer (some ⟨ub, 0, none⟩)) w := by kernel_rfl
theorem meth_base_dig (ub : Nat) (w : World) : (method 449 236 (.pointer (some ⟨ub, 0, none⟩)) "garrison/rules.dig").run Pz.prog w = .ok (251, .pointer (some ⟨ub, 0, none⟩)) w := by kernel_rfl
theorem meth_base_hire (ub : Nat) (w : World) : (method 449 236 (.pointer (some ⟨ub, 0, none⟩)) "garrison/rules.hire").run Pz.prog w = .ok (256, .pointer (some ⟨ub, 0, none⟩)) w := by kernel_rfl
theorem meth_base_train (ub : Nat) (w : World) : (method 449 236 (.pointer (some ⟨ub, 0, none⟩)) "garrison/rules.train").run Pz.prog w = .ok (259, .pointer (some ⟨ub, 0, none⟩)) w := by kernel_rfl
theorem meth_worker_move (ub : Nat) (w : World) : (method 449 239 (.pointer (some ⟨ub, 0, none⟩)) "garrison/rules.move").run Pz.prog w = .ok (253, .pointer (some ⟨ub, 0, none⟩)) w := by kernel_rfl
theorem meth_worker_hit (ub : Nat) (w : World) : (method 449 239 (.pointer (some ⟨ub, 0, none⟩)) "garrison/rules.hit").run Pz.prog w = .ok (265, .pointer (some ⟨ub, 0, none⟩)) w := by kernel_rfl
theorem meth_worker_dig (ub : Nat) (w : World) : (method 449 239 (.pointer (some ⟨ub, 0, none⟩)) "garrison/rules.dig").run Pz.prog w = .ok (264, .pointer (some ⟨ub, 0, none⟩)) w := by kernel_rfl
theorem meth_worker_hire (ub : Nat) (w : World) : (method 449 239 (.pointer (some ⟨ub, 0, none⟩)) "garrison/rules.hire").run Pz.prog w = .ok (252, .pointer (some ⟨ub, 0, none⟩)) w := by kernel_rfl
theorem meth_worker_train (ub : Nat) (w : World) : (method 449 239 (.pointer (some ⟨ub, 0, none⟩)) "garrison/rules.train").run Pz.prog w = .ok (254, .pointer (some ⟨ub, 0, none⟩)) w := by kernel_rfl
theorem meth_soldier_move (ub : Nat) (w : World) : (method 449 346 (.pointer (some ⟨ub, 0, none⟩)) "garrison/rules.move").run Pz.prog w = .ok (253, .pointer (some ⟨ub, 0, none⟩)) w := by kernel_rfl
theorem meth_soldier_hit (ub : Nat) (w : World) : (method 449 346 (.pointer (some ⟨ub, 0, none⟩)) "garrison/rules.hit").run Pz.prog w = .ok (268, .pointer (some ⟨ub, 0, none⟩)) w := by kernel_rfl
theorem meth_soldier_dig (ub : Nat) (w : World) : (method 449 346 (.pointer (some ⟨ub, 0, none⟩)) "garrison/rules.dig").run Pz.prog w = .ok (251, .pointer (some ⟨ub, 0, none⟩)) w := by kernel_rfl
theorem meth_soldier_hire (ub : Nat) (w : World) : (method 449 346 (.pointer (some ⟨ub, 0, none⟩)) "garrison/rules.hire").run Pz.prog w = .ok (252, .pointer (some ⟨ub, 0, none⟩)) w := by kernel_rfl
theorem meth_soldier_train (ub : Nat) (w : World) : (method 449 346 (.pointer (some ⟨ub, 0, none⟩)) "garrison/rules.train").run Pz.prog w = .ok (254, .pointer (some ⟨ub, 0, none⟩)) w := by kernel_rfl
theorem PAt.set_turn {w:World}{O:Nat→Prop}{b:Nat}{S:PS}{gv uv:Value}{bs:List Nat}(h:PAt w O b S gv uv bs)(n:Int):PAt (w.setCell ⟨b,0,none⟩ (.int .i64 n)) O b { S with turn:=n } gv uv bs :=
 ⟨h.ore,h.blen,h.st.set 0 (.int .i64 n),h.gold.other (fun e=>(h.og b e).2 rfl),h.units.other (fun e=>(h.ou b e).2.1 rfl),
  fun k hk=>(h.each k hk).other (fun e=>by
   have hl:=h.blen
   have hk':k<S.units.length:=hk
   exact (h.oe (bs.getD k 0) (by simp[List.getD,List.getElem?_eq_getElem (show k<bs.length by omega)])).2.1 e),h.kinds,h.nodup,h.ob,h.og,h.ou,h.oe⟩
theorem PAt.set_last {w:World}{O:Nat→Prop}{b:Nat}{S:PS}{gv uv:Value}{bs:List Nat}(h:PAt w O b S gv uv bs)(n:Int):PAt (w.setCell ⟨b,1,none⟩ (.int .i64 n)) O b { S with last:=n } gv uv bs :=
 ⟨h.ore,h.blen,h.st.set 1 (.int .i64 n),h.gold.other (fun e=>(h.og b e).2 rfl),h.units.other (fun e=>(h.ou b e).2.1 rfl),
  fun k hk=>(h.each k hk).other (fun e=>by
   have hl:=h.blen
   have hk':k<S.units.length:=hk
   exact (h.oe (bs.getD k 0) (by simp[List.getD,List.getElem?_eq_getElem (show k<bs.length by omega)])).2.1 e),h.kinds,h.nodup,h.ob,h.og,h.ou,h.oe⟩
end Go.Proofs.YtdianedehhecoaaGreatDoor
/- A unit comes: the state's relation behind it. -/
namespace Go.Proofs.YtdianedehhecoaaGreatDoor
open Go.RowKit
theorem getD_push_pu (us:List PU)(u:PU)(i:Nat):(us++[u]).getD i pu0=if i<us.length then us.getD i pu0 else if i=us.length then u else pu0:=by
 simp only[List.getD]
 by_cases h:i<us.length
 ·rw[if_pos h,List.getElem?_append_left h]
 ·rw[if_neg h,List.getElem?_append_right (by omega)]
  by_cases e:i=us.length
  ·subst e;simp
  ·rw[if_neg e,List.getElem?_eq_none (by simp;omega)];rfl
theorem getD_push_nat (bs:List Nat)(c i:Nat):(bs++[c]).getD i 0=if i<bs.length then bs.getD i 0 else if i=bs.length then c else 0:=by
 simp only[List.getD]
 by_cases h:i<bs.length
 ·rw[if_pos h,List.getElem?_append_left h]
 ·rw[if_neg h,List.getElem?_append_right (by omega)]
  by_cases e:i=bs.length
  ·subst e;simp
  ·rw[if_neg e,List.getElem?_eq_none (by simp;omega)];rfl
theorem PAt.mem {w:World}{O:Nat→Prop}{b:Nat}{S:PS}{gv uv:Value}{bs:List Nat}(h:PAt w O b S gv uv bs){c:Nat}(hc:c∈bs):c<w.heap.size:=by
 obtain ⟨i,hi,rfl⟩:=List.getElem_of_mem hc
 have hl:=h.blen
 have:=(h.each i (by omega)).lt
 simpa [List.getD,List.getElem?_eq_getElem hi] using this
theorem PAt.push {w w':World}{O:Nat→Prop}{b nb:Nat}{S:PS}{gv uv uv':Value}{bs:List Nat}(u:PU)(l:Int)(h:PAt w O b S gv uv bs)(hn:w.heap.size≤nb)
  (hst:BlkAt w' b (pCells { S with last:=l } gv uv') 153)
  (hgo:RowAt w' 3 1 gv S.gold.length (S.gold.map (.int .i64)))
  (hro:RowAt w' 165 1 uv' (S.units.length+1) (uVals S.units bs++[uVal u nb]))
  (hea:∀ c,c∈bs→w'.heap[c]? = w.heap[c]?)(hnb:BlkAt w' nb u.cells (strT u.kind))(hkd:u.kind=1∨u.kind=2∨u.kind=3)
  (hou:∀ k,uv'.ownBlock=some k→uv.ownBlock=some k∨(w.heap.size≤k∧k≠nb)) :
  PAt w' (fun k=>O k∨w.heap.size≤k) b { S with last:=l,units:=S.units++[u] } gv uv' (bs++[nb]):=by
 have hl:=h.blen
 have hbb:=h.st.lt
 refine ⟨h.ore,by simp[hl],hst,hgo,?_,fun i hi=>?_,fun i hi=>?_,?_,.inl h.ob,fun k e=>⟨.inl (h.og k e).1,(h.og k e).2⟩,fun k e=>?_,fun k e=>?_⟩
 ·have e2:uVals (S.units++[u]) (bs++[nb])=uVals S.units bs++[uVal u nb]:=by
   unfold uVals
   rw[List.zipWith_append (by omega)]
   rfl
  show RowAt _ _ _ _ (S.units++[u]).length (uVals (S.units++[u]) (bs++[nb]))
  rw[e2,List.length_append]
  exact hro
 ·show BlkAt _ ((bs++[nb]).getD i 0) ((S.units++[u]).getD i pu0).cells (strT ((S.units++[u]).getD i pu0).kind)
  have hi':i<S.units.length+1:=by simpa using hi
  rw[getD_push_pu,getD_push_nat]
  by_cases e:i<S.units.length
  ·rw[if_pos e,if_pos (by omega)]
   exact (h.each i e).same (hea _ (by simp[List.getD,List.getElem?_eq_getElem (show i<bs.length by omega)]))
  ·rw[if_neg e,if_neg (by omega),if_pos (by omega),if_pos (by omega)]
   exact hnb
 ·show ((S.units++[u]).getD i pu0).kind=1∨((S.units++[u]).getD i pu0).kind=2∨((S.units++[u]).getD i pu0).kind=3
  have hi':i<S.units.length+1:=by simpa using hi
  rw[getD_push_pu]
  by_cases e:i<S.units.length
  ·rw[if_pos e];exact h.kinds i e
  ·rw[if_neg e,if_pos (by omega)];exact hkd
 ·rw[List.nodup_append]
  refine ⟨h.nodup,by simp,fun c hc d hd=>?_⟩
  have:=h.mem hc
  simp at hd
  omega
 ·rcases hou k e with q|⟨q,q2⟩
  ·exact ⟨.inl (h.ou k q).1,(h.ou k q).2⟩
  ·exact ⟨.inr q,by omega,fun e3=>by have:=h.gold.lt e3;omega⟩
 ·rcases List.mem_append.1 e with q|q
  ·refine ⟨.inl (h.oe k q).1,(h.oe k q).2.1,(h.oe k q).2.2.1,fun e3=>?_⟩
   rcases hou k e3 with r|⟨r,-⟩
   ·exact (h.oe k q).2.2.2 r
   ·have:=h.mem q;omega
  ·simp at q
   subst q
   refine ⟨.inr hn,by omega,fun e3=>by have:=h.gold.lt e3;omega,fun e3=>?_⟩
   rcases hou k e3 with r|⟨-,r⟩
   ·have:=h.units.lt r;omega
   ·exact r rfl
end Go.Proofs.YtdianedehhecoaaGreatDoor
/- What the closure of the program's Do tells: the unit's player is out. -/
namespace Go.Proofs.YtdianedehhecoaaGreatDoor
open Go.RowKit
theorem tellsOut {w:World}{g ub P a:Nat}{r:Bool}(hne:ub≠g)(hlt:ub<w.heap.size)(hnp:P≠g)(hpl:P<w.heap.size)(ha:a<4)(c1:w.cell? ⟨ub,1,none⟩=some (.int .i64 a))(cp:w.cell? ⟨P,a,none⟩=some (.bool r)) :
  TellsAt w g 82 [.pointer (some ⟨P,0,none⟩)] ub (!r):=by
 intro W hK
 have d1:=(World.cell?_of_block (w:=w) (w':=W) (a:=⟨ub,1,none⟩) (hK.block ub hlt hne)).trans c1
 have dp:=(World.cell?_of_block (w:=w) (w':=W) (a:=⟨P,a,none⟩) (hK.block P hpl hnp)).trans cp
 have hai:(a:Int)<4:=by omega
 show Calls Pz.prog 82 #[.pointer (some ⟨ub,0,none⟩),.pointer (some ⟨P,0,none⟩)] W _
 clear hK c1 cp
 go_enter Pz.func82,Tryz.ntmps82
 go_wp2
 go_ret
 exact ⟨rfl,0,rfl⟩
end Go.Proofs.YtdianedehhecoaaGreatDoor