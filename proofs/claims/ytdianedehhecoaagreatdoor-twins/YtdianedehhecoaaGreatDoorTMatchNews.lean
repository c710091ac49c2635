/- keepHash, however many hashes there are. -/
import Derived.Test.YtdianedehhecoaaGreatDoorTMatchAts
set_option linter.unusedVariables false
set_option linter.unusedSimpArgs false
set_option maxHeartbeats 4000000
set_option maxRecDepth 20000
namespace Go.Proofs.YtdianedehhecoaaGreatDoor
open Go.RowKit
section
variable {w:World} {O:Nat→Prop} {mb sb:Nat} {S:RS} {gv uv:Value} {bs:List Nat} {g:Nat}
structure Hashed2 (w w':World)(mb:Nat)(xs:List Value)(hv:Value)(n:Nat)(hs:List Value)(t:ByteArray)(hv':Value):Prop where
 cells:BlkAt w' mb (xs.set 3 hv') 136
 row:RowAt w' 9 1 hv' (n+1) (hs++[.string t])
 own:hv'.ownBlock=hv.ownBlock∨∃ k,hv'.ownBlock=some k∧w.heap.size≤k
 os:w'.os=w.os
 tape:w'.tape=w.tape
 output:w'.output=w.output
 size:w.heap.size≤w'.heap.size
 block:∀ k:Nat,k<w.heap.size→k≠mb→hv.ownBlock≠some k→w'.heap[k]? = w.heap[k]?
theorem hashed2_of {wb w4:World}{xs:List Value}{hv hv':Value}{n:Nat}{hs:List Value}{t:ByteArray}{o:Obj}(hm:BlkAt w mb xs 136)(hb:Below w.heap.size w wb)(hg:(wb.alloc o).grownBy w4 hv.ownBlock)(hrow:RowAt w4 9 1 hv' (n+1) (hs++[.string t]))
  (hob:hv'.ownBlock=hv.ownBlock∨hv'.ownBlock=some (wb.alloc o).heap.size)(hne:hv.ownBlock≠some mb):Hashed2 w (w4.setCell ⟨mb,3,none⟩ hv') mb xs hv n hs t hv':=by
 have hml:=hm.lt
 have hz:=hb.size
 have hz2:(wb.alloc o).heap.size=wb.heap.size+1:=by simp
 have hz3:=hg.size
 have old:∀ k:Nat,k<w.heap.size→hv.ownBlock≠some k→w4.heap[k]? = w.heap[k]?:=fun k hk h1=>by
  rw[hg.block k (by omega) (fun e=>h1 e.symm),Below.heap_alloc _ _ _ (by omega),hb.block k hk]
 have hne':hv'.ownBlock≠some mb:=by
  rcases hob with e|e
  ·rw[e];exact hne
  ·rw[e];intro x;cases x;omega
 refine ⟨(hm.same (old mb hml hne)).set 3 hv',hrow.other hne',?_,?_,?_,?_,?_,fun k hk h1 h2=>?_⟩
 ·rcases hob with e|e
  ·exact .inl e
  ·exact .inr ⟨_,e,by omega⟩
 ·exact hg.os.trans hb.os
 ·exact hg.tape.trans hb.tape
 ·exact hg.output.trans hb.output
 ·simp
  omega
 ·rw[Below.heap_setCell _ _ _ _ h1]
  exact old k hk h2
theorem keepHash_gen {x0 x1 x4 x5 x6 hv:Value}{n:Nat}{hs:List Value}(hm:BlkAt w mb [x0,x1,.pointer (some ⟨sb,0,none⟩),hv,x4,x5,x6] 136)(hrow:RowAt w 9 1 hv n hs)(hn:n≤100000)(hne:hv.ownBlock≠some mb)(h:PAt w O sb (toPS S) gv uv bs)(hob:uv.ownBlock=some g)(hI:RInv S)(hsz:(bytesF S).size≤100000)(hd:w.cell? ⟨4,15,none⟩=some (.int .u8 4)) :
  Calls Pz.prog 115 #[.pointer (some ⟨mb,0,none⟩)] w fun e w'=>e=.returned (.tuple #[])∧∃ hv',Hashed2 w w' mb [x0,x1,.pointer (some ⟨sb,0,none⟩),hv,x4,x5,x6] hv n hs (hash16 (bytesF S)) hv':=by
 have h2:w.cell? ⟨mb,2,none⟩=some (.pointer (some ⟨sb,0,none⟩)):=hm.cell rfl
 have h3:w.cell? ⟨mb,3,none⟩=some hv:=hm.cell rfl
 have f3:w.frozen? ⟨mb,3,none⟩=false:=hm.free 3
 have hml:=hm.lt
 have hdl:=cell_lt hd
 have HB:Hid (∀ W,Below w.heap.size w W→Calls Pz.prog 41 #[.pointer (some ⟨sb,0,none⟩)] W fun e w'=>e=.returned (.string (bytesF S))∧(w'.cell? ⟨mb,3,none⟩=some hv∧w'.frozen? ⟨mb,3,none⟩=false∧mb<w'.heap.size)∧Hid (Below w.heap.size w w')):=fun W hW=>by
  have H:=PBytes_any (h.below hW) hob hI.toP
  rw[bytes_rel S hI.ore]at H
  exact H.mono fun e w' ⟨he,hb⟩=>by
   have hb':=hW.trans (hb.mono hW.size)
   exact ⟨he,⟨(hb'.cell hml).trans h3,(hb'.frozen hml).trans f3,by have:=hb'.size;omega⟩,hb'⟩
 have HW:Hid (∀ W,Below w.heap.size w W→Calls Pz.prog 42 #[.string (bytesF S)] W fun e w'=>e=.returned (.string (hash16 (bytesF S)))∧(w'.cell? ⟨mb,3,none⟩=some hv∧w'.frozen? ⟨mb,3,none⟩=false∧mb<w'.heap.size)∧Hid (Below w.heap.size w w')):=fun W hW =>
  (WHash_any _ W hsz ((hW.cell hdl).trans hd)).mono fun e w' ⟨he,hb⟩=>by
   have hb':=hW.trans (hb.mono hW.size)
   exact ⟨he,⟨(hb'.cell hml).trans h3,(hb'.frozen hml).trans f3,by have:=hb'.size;omega⟩,hb'⟩
 have HM:=(show Hid _ from hm)
 have HR:=(show Hid _ from hrow)
 have HNE:=(show Hid _ from hne)
 obtain ⟨ui,hui⟩:∃ i,Pz.prog.info? 9=some i:=⟨_,rfl⟩
 have iz:ui.zero=some (.string ⟨#[]⟩):=by
  have:(Pz.prog.info? 9).bind (·.zero)=some (.string ⟨#[]⟩):=by kernel_rfl
  rw[hui]at this;exact this
 have is1:ui.size=1:=by
  have:(Pz.prog.info? 9).map (·.size)=some 1:=by kernel_rfl
  rw[hui]at this;exact Option.some.inj this
 have ib:ui.bytes=16:=by
  have:(Pz.prog.info? 9).map (·.bytes)=some 16:=by kernel_rfl
  rw[hui]at this;exact Option.some.inj this
 clear hm h hob hI hsz hd hrow hne
 generalize hash16 (bytesF S)=t at *
 generalize bytesF S=s at *
 go_enter Pz.func115,Tryz.ntmps115
 go_wp2_with fail
 go_region_law (first
  | (refine step_append_row (v:=hv) (n:=n) (xs:=hs) (ad:=⟨wb.heap.size,0,none⟩) (c:=1) (u:=.string t) rfl (.tmp 6) (.tmp 13) 34 rfl 9 ui (.string ⟨#[]⟩) 16 ((Pz.gUnderlying 34).trans Tryz.underlying34) hui iz is1 ib rfl rfl (RowAt.alloc (RowAt.same (show RowAt w 9 1 hv n hs from HR.out) (fun k e=>kb4.out.block k (RowAt.lt (show RowAt w 9 1 hv n hs from HR.out) e))) _) rfl (new_cell wb _ _) rfl (by omega) (by decide) ?_;intro v' w4 hr4 hg4 hb4;obtain ⟨g4,cap4,rfl,hv4⟩:=hr4.slice4;have c4:w4.cell? ⟨mb,3,none⟩=some hv:=(World.cell?_of_block (w:=wb.alloc _) (hg4.block mb (by simp;omega) (fun e=>HNE.out e.symm))).trans ((World.cell?_of_block (w:=wb) (Below.heap_alloc _ _ _ (by omega))).trans kb1);have f4:w4.frozen? ⟨mb,3,none⟩=false:=(World.frozen?_of_block (w:=wb.alloc _) (hg4.block mb (by simp;omega) (fun e=>HNE.out e.symm))).trans ((World.frozen?_of_block (w:=wb) (Below.heap_alloc _ _ _ (by omega))).trans kb2);have HH2:=(show Hid _ from hashed2_of (show BlkAt w mb [x0,x1,.pointer (some ⟨sb,0,none⟩),hv,x4,x5,x6] 136 from HM.out) kb4.out hg4 hr4 hb4 HNE.out);clear hr4 hg4 hb4)
  | (go_simp;go_wp2_with (first|(go_at_call 41;refine Calls.mono (HB.out _ ((Below.refl _ _).drew)) ?_;rintro e wa ⟨rfl,⟨ka1,ka2,ka3⟩,ka4⟩)|(go_at_call 42;refine Calls.mono (HW.out _ ka4.out) ?_;rintro e wb ⟨rfl,⟨kb1,kb2,kb3⟩,kb4⟩))))
 all_goals
  go_wp2
  go_end0
  exact ⟨rfl,_,HH2.out⟩
end
end Go.Proofs.YtdianedehhecoaaGreatDoor
/- A new match. -/
namespace Go.Proofs.YtdianedehhecoaaGreatDoor
open Go.RowKit
structure Hashed (w w':World)(mb hb cap:Nat)(t:ByteArray):Prop where
 row:RowAt w' 9 1 (.slice (some ⟨hb,0,none⟩) 1 cap) 1 [.string t]
 new:w.heap.size≤hb
 others:∀ k,k≠mb→k<w.heap.size→w'.heap[k]? = w.heap[k]?
 below:∀ lo,lo≤mb→lo≤w.heap.size→Below lo w w'
section
variable {w:World} {O:Nat→Prop} {mb sb tb P:Nat} {S:RS} {gv uv:Value} {bs:List Nat} {g:Nat}
theorem keepHash_any (hm:BlkAt w mb [.int .i32 0,.int .u32 0,.pointer (some ⟨sb,0,none⟩),.slice none 0 0,.slice (some ⟨tb,0,none⟩) P P,.bool false,.slice none 0 0] 136)(h:PAt w O sb (toPS S) gv uv bs)(hob:uv.ownBlock=some g)(hI:RInv S)(hsz:(bytesF S).size≤100000)(hd:w.cell? ⟨4,15,none⟩=some (.int .u8 4)) :
  Calls Pz.prog 115 #[.pointer (some ⟨mb,0,none⟩)] w fun e w'=>e=.returned (.tuple #[])∧∃ hb cap,BlkAt w' mb [.int .i32 0,.int .u32 0,.pointer (some ⟨sb,0,none⟩),.slice (some ⟨hb,0,none⟩) 1 cap,.slice (some ⟨tb,0,none⟩) P P,.bool false,.slice none 0 0] 136∧Hashed w w' mb hb cap (hash16 (bytesF S)):=by
 refine (keepHash_gen (n:=0) (hs:=[]) hm ⟨rfl,.inl ⟨rfl,rfl⟩⟩ (by omega) (by simp[Value.ownBlock]) h hob hI hsz hd).mono ?_
 rintro e w' ⟨he,hv',hH⟩
 obtain ⟨b,cap,rfl,ho⟩:=hH.row.slice4
 have hnew:w.heap.size≤b:=by
  rcases hH.own with e|⟨k,e,hk⟩
  ·rw[ho]at e;cases e
  ·rw[ho]at e;cases e;exact hk
 exact ⟨he,b,cap,hH.cells,hH.row,hnew,fun k h1 h2=>hH.block k h2 h1 (by simp[Value.ownBlock]),fun lo h1 h2=>⟨hH.os,hH.tape,hH.output,hH.size,fun k hk=>hH.block k (by omega) (by omega) (by simp[Value.ownBlock])⟩⟩
end
end Go.Proofs.YtdianedehhecoaaGreatDoor
/- A new match: play.New. -/
namespace Go.Proofs.YtdianedehhecoaaGreatDoor
open Go.RowKit
structure MBare (X:World)(lo mb:Nat)(sd:Int)(P sb tb:Nat)(gv uv:Value)(bs:List Nat)(g:Nat):Prop where
 cells:BlkAt X mb [.int .i32 0,.int .u32 0,.pointer (some ⟨sb,0,none⟩),.slice none 0 0,.slice (some ⟨tb,0,none⟩) P P,.bool false,.slice none 0 0] 136
 seats:BlkAt X tb (List.replicate P (.pointer none)) 182
 ub:uv.ownBlock=some g
 state:PAt X (fun k=>lo≤k∧k≠mb∧k≠tb) sb (toPS (startTo sd P)) gv uv bs
 lm:lo≤mb
 lt:lo≤tb
 d1:mb≠tb
theorem MBare.hashed {X w':World}{lo mb:Nat}{sd:Int}{P sb tb:Nat}{gv uv:Value}{bs:List Nat}{g hb cap:Nat}(h:MBare X lo mb sd P sb tb gv uv bs g)(hlo:lo≤X.heap.size)
  (hm:BlkAt w' mb [.int .i32 0,.int .u32 0,.pointer (some ⟨sb,0,none⟩),.slice (some ⟨hb,0,none⟩) 1 cap,.slice (some ⟨tb,0,none⟩) P P,.bool false,.slice none 0 0] 136)(hh:Hashed X w' mb hb cap (hash16 (bytesF (startTo sd P)))):MParts w' 0 lo mb sd P sb hb cap tb gv uv bs g []:=by
 have hml:=h.cells.lt
 have htl:=h.seats.lt
 have hn:=hh.new
 exact
 {le:=Nat.zero_le _
  cells:=hm
  row:=hh.row
  seats:=by
   have e:seatV [] P=List.replicate P (.pointer none):=by simp[seatV]
   rw[e]
   exact h.seats.same (hh.others _ (Ne.symm h.d1) htl)
  players:=fun i hi=>by simp at hi
  ub:=h.ub
  state:=(h.state.own fun k ho hl=>⟨ho.1,ho.2.1,ho.2.2,by omega,by simp⟩).on fun k ho hl=>hh.others k ho.2.1 hl
  lm:=h.lm
  lt:=h.lt
  lh:=by omega
  lp:=fun k hk=>by simp at hk
  d1:=h.d1
  d2:=by omega
  d3:=by omega }
theorem MBare.first {w w1:World}{sd:Int}{P g:Nat}{gv uv:Value}{bs:List Nat}(hu:uv.ownBlock=some g)(h:PAt w1 (fun k=>w.heap.size≤k) w.heap.size (toPS (startTo sd P)) gv uv bs)(hb:Below w.heap.size w w1) :
  MBare ((w1.alloc (.cells (List.replicate P (.pointer none)).toArray 182)).alloc (.cells #[.int .i32 0,.int .u32 0,.pointer (some ⟨w.heap.size,0,none⟩),.slice none 0 0,.slice (some ⟨w1.heap.size,0,none⟩) P P,.bool false,.slice none 0 0] 136)) w.heap.size (w1.heap.size+1) sd P w.heap.size w1.heap.size gv uv bs g:=by
 have hz:=hb.size
 have h3:=BlkAt.new (w1.alloc (.cells (List.replicate P (.pointer none)).toArray 182)) [.int .i32 0,.int .u32 0,.pointer (some ⟨w.heap.size,0,none⟩),.slice none 0 0,.slice (some ⟨w1.heap.size,0,none⟩) P P,.bool false,.slice none 0 0] 136
 refine ⟨by simpa using h3,(BlkAt.new w1 _ _).alloc _,hu,?_,by omega,hz,by omega⟩
 refine (h.own fun k ho hl=>⟨ho,by omega,by omega⟩).below ?_
 exact ((Below.refl _ _).alloc (Nat.le_refl _) _).alloc (by simp) _
theorem MBare.second {w w1:World}{sd:Int}{P g:Nat}{gv uv:Value}{bs:List Nat}(hu:uv.ownBlock=some g)(h:PAt w1 (fun k=>w.heap.size+1≤k) (w.heap.size+1) (toPS (startTo sd P)) gv uv bs)(hs:BlkAt w1 w.heap.size (List.replicate P (.pointer none)) 182) :
  MBare (w1.alloc (.cells #[.int .i32 0,.int .u32 0,.pointer (some ⟨w.heap.size+1,0,none⟩),.slice none 0 0,.slice (some ⟨w.heap.size,0,none⟩) P P,.bool false,.slice none 0 0] 136)) w.heap.size w1.heap.size sd P (w.heap.size+1) w.heap.size gv uv bs g:=by
 have hl:=hs.lt
 refine ⟨BlkAt.new w1 _ _,hs.alloc _,hu,?_,by omega,Nat.le_refl _,by omega⟩
 refine (h.own fun k ho hl=>⟨by omega,by omega,by omega⟩).below ?_
 exact (Below.refl _ _).alloc (Nat.le_refl _) _
def NewSaid (w:World)(sd:Int)(P:Nat)(e:Ending)(w':World):Prop :=
 ∃ mb sb hb cap tb gv uv bs g,e=.returned (.pointer (some ⟨mb,0,none⟩))∧MParts w' 0 w.heap.size mb sd P sb hb cap tb gv uv bs g []∧Below w.heap.size w w'
theorem pnew2_any (sd:Int)(w:World)(s0:0≤sd)(s1:sd≤999)(hC:Corners w)(hd:w.cell? ⟨4,15,none⟩=some (.int .u8 4)) :
    Calls Pz.prog 68 #[.int .i64 sd,.int .i64 2] w (NewSaid w sd 2):=by
  have hmk:∀ w,(Instr.makeSlice 133 (.int .i64 2) (.int .i64 2)).run Pz.prog w=.ok (.slice (some ⟨w.heap.size,0,none⟩) 2 2) (w.alloc (.cells #[.pointer none,.pointer none] 182)):=fun _=>by kernel_rfl
  have HB:Hid (∀ W,Below w.heap.size w W→Calls Pz.prog 38 #[.int .i64 sd,.int .i64 2] W fun e w'=>e=.returned (.pointer (some ⟨W.heap.size,0,none⟩))∧Hid ((∃ gv uv bs,(0<2→∃ g,uv.ownBlock=some g)∧PAt w' (fun k=>W.heap.size≤k) W.heap.size (toPS (startTo sd 2)) gv uv bs)∧Below W.heap.size W w')):=fun W hW=>PBegin_any sd 2 W s0 s1 (by omega) (Corners.below hC hW)
  have HD:=(show Hid _ from hd)
  have hal:Below w.heap.size w (w.alloc (.cells #[.pointer none,.pointer none] 182)):=(Below.refl _ _).alloc (Nat.le_refl _) _
  clear hC hd
  go_enter Pz.func68,Tryz.ntmps68
  go_wp2_with fail
  go_region_with (first|(go_at_call 38;refine Calls.mono (HB.out _ (by first|exact Below.drew hal|exact hal.drew|exact (Below.refl _ _).drew)) ?_;rintro e w1 ⟨rfl,hq⟩))
  all_goals
    obtain ⟨⟨gv,uv,bs,hg,hp⟩,hb⟩:=hq.out
    obtain ⟨g,hu⟩:=hg (by omega)
    have hI:=startTo_inv sd 2 (by omega) (by omega)
    have hdl:=cell_lt HD.out
    have hbig:(bytesF (startTo sd 2)).size≤100000:=by have:=bytesF_size _ hI;omega
    first
    | (have hp1:PAt w1 (fun k=>w.heap.size≤k) w.heap.size (toPS (startTo sd 2)) gv uv bs:=hp
       have hb1:Below w.heap.size w w1:=(Below.refl _ _).drew.trans hb
       have hM:=MBare.first hu hp1 hb1
       have hX:=(hb1.alloc hb1.size (.cells (List.replicate 2 (.pointer none)).toArray 182)).alloc (by have:=hb1.size;simp;omega) (.cells #[.int .i32 0,.int .u32 0,.pointer (some ⟨w.heap.size,0,none⟩),.slice none 0 0,.slice (some ⟨w1.heap.size,0,none⟩) 2 2,.bool false,.slice none 0 0] 136)
       have HK:=(show Hid _ from keepHash_any hM.cells hM.state hM.ub hI hbig ((hX.cell hdl).trans HD.out))
       have HMM:=(show Hid _ from hM)
       have HX:=(show Hid _ from hX)
       clear hq hg hp hb hp1 hb1 hM hX
       go_wp2_with (go_at_call 115;refine Calls.mono HK.out ?_;rintro e w' ⟨rfl,hb',cap,hm',hh'⟩)
       have Hm':=(show Hid _ from hm')
       have Hh':=(show Hid _ from hh')
       clear hm' hh'
       go_wp2
       go_ret
       exact ⟨_,_,_,_,_,_,_,_,_,rfl,HMM.out.hashed HX.out.size Hm'.out Hh'.out,HX.out.trans (Hh'.out.below _ HMM.out.lm HX.out.size)⟩)
    | (have hs:BlkAt w1 w.heap.size (List.replicate 2 (.pointer none)) 182:=(BlkAt.new w (List.replicate 2 (.pointer none)) 182).same (hb.block _ (by show w.heap.size<(w.heap.push _).size;simp))
       have hp2:PAt w1 (fun k=>w.heap.size+1≤k) (w.heap.size+1) (toPS (startTo sd 2)) gv uv bs:=by simpa using hp
       have hM:=MBare.second hu hp2 hs
       have hb0:Below w.heap.size w w1:=hal.drew.trans (hb.mono (by show w.heap.size≤(w.heap.push _).size;simp))
       have hX:=hb0.alloc hb0.size (.cells #[.int .i32 0,.int .u32 0,.pointer (some ⟨w.heap.size+1,0,none⟩),.slice none 0 0,.slice (some ⟨w.heap.size,0,none⟩) 2 2,.bool false,.slice none 0 0] 136)
       have HK:=(show Hid _ from keepHash_any hM.cells hM.state hM.ub hI hbig ((hX.cell hdl).trans HD.out))
       have HMM:=(show Hid _ from hM)
       have HX:=(show Hid _ from hX)
       clear hq hg hp hb hM hX hs hp2 hb0
       go_wp2_with (go_at_call 115;refine Calls.mono HK.out ?_;rintro e w' ⟨rfl,hb',cap,hm',hh'⟩)
       have Hm':=(show Hid _ from hm')
       have Hh':=(show Hid _ from hh')
       clear hm' hh'
       go_wp2
       go_ret
       exact ⟨_,_,_,_,_,_,_,_,_,rfl,HMM.out.hashed HX.out.size Hm'.out Hh'.out,HX.out.trans (Hh'.out.below _ HMM.out.lm HX.out.size)⟩)
theorem pnew3_any (sd:Int)(w:World)(s0:0≤sd)(s1:sd≤999)(hC:Corners w)(hd:w.cell? ⟨4,15,none⟩=some (.int .u8 4)) :
    Calls Pz.prog 68 #[.int .i64 sd,.int .i64 3] w (NewSaid w sd 3):=by
  have hmk:∀ w,(Instr.makeSlice 133 (.int .i64 3) (.int .i64 3)).run Pz.prog w=.ok (.slice (some ⟨w.heap.size,0,none⟩) 3 3) (w.alloc (.cells #[.pointer none,.pointer none,.pointer none] 182)):=fun _=>by kernel_rfl
  have HB:Hid (∀ W,Below w.heap.size w W→Calls Pz.prog 38 #[.int .i64 sd,.int .i64 3] W fun e w'=>e=.returned (.pointer (some ⟨W.heap.size,0,none⟩))∧Hid ((∃ gv uv bs,(0<3→∃ g,uv.ownBlock=some g)∧PAt w' (fun k=>W.heap.size≤k) W.heap.size (toPS (startTo sd 3)) gv uv bs)∧Below W.heap.size W w')):=fun W hW=>PBegin_any sd 3 W s0 s1 (by omega) (Corners.below hC hW)
  have HD:=(show Hid _ from hd)
  have hal:Below w.heap.size w (w.alloc (.cells #[.pointer none,.pointer none,.pointer none] 182)):=(Below.refl _ _).alloc (Nat.le_refl _) _
  clear hC hd
  go_enter Pz.func68,Tryz.ntmps68
  go_wp2_with fail
  go_region_with (first|(go_at_call 38;refine Calls.mono (HB.out _ (by first|exact Below.drew hal|exact hal.drew|exact (Below.refl _ _).drew)) ?_;rintro e w1 ⟨rfl,hq⟩))
  all_goals
    obtain ⟨⟨gv,uv,bs,hg,hp⟩,hb⟩:=hq.out
    obtain ⟨g,hu⟩:=hg (by omega)
    have hI:=startTo_inv sd 3 (by omega) (by omega)
    have hdl:=cell_lt HD.out
    have hbig:(bytesF (startTo sd 3)).size≤100000:=by have:=bytesF_size _ hI;omega
    first
    | (have hp1:PAt w1 (fun k=>w.heap.size≤k) w.heap.size (toPS (startTo sd 3)) gv uv bs:=hp
       have hb1:Below w.heap.size w w1:=(Below.refl _ _).drew.trans hb
       have hM:=MBare.first hu hp1 hb1
       have hX:=(hb1.alloc hb1.size (.cells (List.replicate 3 (.pointer none)).toArray 182)).alloc (by have:=hb1.size;simp;omega) (.cells #[.int .i32 0,.int .u32 0,.pointer (some ⟨w.heap.size,0,none⟩),.slice none 0 0,.slice (some ⟨w1.heap.size,0,none⟩) 3 3,.bool false,.slice none 0 0] 136)
       have HK:=(show Hid _ from keepHash_any hM.cells hM.state hM.ub hI hbig ((hX.cell hdl).trans HD.out))
       have HMM:=(show Hid _ from hM)
       have HX:=(show Hid _ from hX)
       clear hq hg hp hb hp1 hb1 hM hX
       go_wp2_with (go_at_call 115;refine Calls.mono HK.out ?_;rintro e w' ⟨rfl,hb',cap,hm',hh'⟩)
       have Hm':=(show Hid _ from hm')
       have Hh':=(show Hid _ from hh')
       clear hm' hh'
       go_wp2
       go_ret
       exact ⟨_,_,_,_,_,_,_,_,_,rfl,HMM.out.hashed HX.out.size Hm'.out Hh'.out,HX.out.trans (Hh'.out.below _ HMM.out.lm HX.out.size)⟩)
    | (have hs:BlkAt w1 w.heap.size (List.replicate 3 (.pointer none)) 182:=(BlkAt.new w (List.replicate 3 (.pointer none)) 182).same (hb.block _ (by show w.heap.size<(w.heap.push _).size;simp))
       have hp2:PAt w1 (fun k=>w.heap.size+1≤k) (w.heap.size+1) (toPS (startTo sd 3)) gv uv bs:=by simpa using hp
       have hM:=MBare.second hu hp2 hs
       have hb0:Below w.heap.size w w1:=hal.drew.trans (hb.mono (by show w.heap.size≤(w.heap.push _).size;simp))
       have hX:=hb0.alloc hb0.size (.cells #[.int .i32 0,.int .u32 0,.pointer (some ⟨w.heap.size+1,0,none⟩),.slice none 0 0,.slice (some ⟨w.heap.size,0,none⟩) 3 3,.bool false,.slice none 0 0] 136)
       have HK:=(show Hid _ from keepHash_any hM.cells hM.state hM.ub hI hbig ((hX.cell hdl).trans HD.out))
       have HMM:=(show Hid _ from hM)
       have HX:=(show Hid _ from hX)
       clear hq hg hp hb hM hX hs hp2 hb0
       go_wp2_with (go_at_call 115;refine Calls.mono HK.out ?_;rintro e w' ⟨rfl,hb',cap,hm',hh'⟩)
       have Hm':=(show Hid _ from hm')
       have Hh':=(show Hid _ from hh')
       clear hm' hh'
       go_wp2
       go_ret
       exact ⟨_,_,_,_,_,_,_,_,_,rfl,HMM.out.hashed HX.out.size Hm'.out Hh'.out,HX.out.trans (Hh'.out.below _ HMM.out.lm HX.out.size)⟩)
theorem pnew4_any (sd:Int)(w:World)(s0:0≤sd)(s1:sd≤999)(hC:Corners w)(hd:w.cell? ⟨4,15,none⟩=some (.int .u8 4)) :
    Calls Pz.prog 68 #[.int .i64 sd,.int .i64 4] w (NewSaid w sd 4):=by
  have hmk:∀ w,(Instr.makeSlice 133 (.int .i64 4) (.int .i64 4)).run Pz.prog w=.ok (.slice (some ⟨w.heap.size,0,none⟩) 4 4) (w.alloc (.cells #[.pointer none,.pointer none,.pointer none,.pointer none] 182)):=fun _=>by kernel_rfl
  have HB:Hid (∀ W,Below w.heap.size w W→Calls Pz.prog 38 #[.int .i64 sd,.int .i64 4] W fun e w'=>e=.returned (.pointer (some ⟨W.heap.size,0,none⟩))∧Hid ((∃ gv uv bs,(0<4→∃ g,uv.ownBlock=some g)∧PAt w' (fun k=>W.heap.size≤k) W.heap.size (toPS (startTo sd 4)) gv uv bs)∧Below W.heap.size W w')):=fun W hW=>PBegin_any sd 4 W s0 s1 (by omega) (Corners.below hC hW)
  have HD:=(show Hid _ from hd)
  have hal:Below w.heap.size w (w.alloc (.cells #[.pointer none,.pointer none,.pointer none,.pointer none] 182)):=(Below.refl _ _).alloc (Nat.le_refl _) _
  clear hC hd
  go_enter Pz.func68,Tryz.ntmps68
  go_wp2_with fail
  go_region_with (first|(go_at_call 38;refine Calls.mono (HB.out _ (by first|exact Below.drew hal|exact hal.drew|exact (Below.refl _ _).drew)) ?_;rintro e w1 ⟨rfl,hq⟩))
  all_goals
    obtain ⟨⟨gv,uv,bs,hg,hp⟩,hb⟩:=hq.out
    obtain ⟨g,hu⟩:=hg (by omega)
    have hI:=startTo_inv sd 4 (by omega) (by omega)
    have hdl:=cell_lt HD.out
    have hbig:(bytesF (startTo sd 4)).size≤100000:=by have:=bytesF_size _ hI;omega
    first
    | (have hp1:PAt w1 (fun k=>w.heap.size≤k) w.heap.size (toPS (startTo sd 4)) gv uv bs:=hp
       have hb1:Below w.heap.size w w1:=(Below.refl _ _).drew.trans hb
       have hM:=MBare.first hu hp1 hb1
       have hX:=(hb1.alloc hb1.size (.cells (List.replicate 4 (.pointer none)).toArray 182)).alloc (by have:=hb1.size;simp;omega) (.cells #[.int .i32 0,.int .u32 0,.pointer (some ⟨w.heap.size,0,none⟩),.slice none 0 0,.slice (some ⟨w1.heap.size,0,none⟩) 4 4,.bool false,.slice none 0 0] 136)
       have HK:=(show Hid _ from keepHash_any hM.cells hM.state hM.ub hI hbig ((hX.cell hdl).trans HD.out))
       have HMM:=(show Hid _ from hM)
       have HX:=(show Hid _ from hX)
       clear hq hg hp hb hp1 hb1 hM hX
       go_wp2_with (go_at_call 115;refine Calls.mono HK.out ?_;rintro e w' ⟨rfl,hb',cap,hm',hh'⟩)
       have Hm':=(show Hid _ from hm')
       have Hh':=(show Hid _ from hh')
       clear hm' hh'
       go_wp2
       go_ret
       exact ⟨_,_,_,_,_,_,_,_,_,rfl,HMM.out.hashed HX.out.size Hm'.out Hh'.out,HX.out.trans (Hh'.out.below _ HMM.out.lm HX.out.size)⟩)
    | (have hs:BlkAt w1 w.heap.size (List.replicate 4 (.pointer none)) 182:=(BlkAt.new w (List.replicate 4 (.pointer none)) 182).same (hb.block _ (by show w.heap.size<(w.heap.push _).size;simp))
       have hp2:PAt w1 (fun k=>w.heap.size+1≤k) (w.heap.size+1) (toPS (startTo sd 4)) gv uv bs:=by simpa using hp
       have hM:=MBare.second hu hp2 hs
       have hb0:Below w.heap.size w w1:=hal.drew.trans (hb.mono (by show w.heap.size≤(w.heap.push _).size;simp))
       have hX:=hb0.alloc hb0.size (.cells #[.int .i32 0,.int .u32 0,.pointer (some ⟨w.heap.size+1,0,none⟩),.slice none 0 0,.slice (some ⟨w.heap.size,0,none⟩) 4 4,.bool false,.slice none 0 0] 136)
       have HK:=(show Hid _ from keepHash_any hM.cells hM.state hM.ub hI hbig ((hX.cell hdl).trans HD.out))
       have HMM:=(show Hid _ from hM)
       have HX:=(show Hid _ from hX)
       clear hq hg hp hb hM hX hs hp2 hb0
       go_wp2_with (go_at_call 115;refine Calls.mono HK.out ?_;rintro e w' ⟨rfl,hb',cap,hm',hh'⟩)
       have Hm':=(show Hid _ from hm')
       have Hh':=(show Hid _ from hh')
       clear hm' hh'
       go_wp2
       go_ret
       exact ⟨_,_,_,_,_,_,_,_,_,rfl,HMM.out.hashed HX.out.size Hm'.out Hh'.out,HX.out.trans (Hh'.out.below _ HMM.out.lm HX.out.size)⟩)
theorem pnew_any (sd:Int)(P:Nat)(w:World)(p2:2≤P)(p4:P≤4)(s0:0≤sd)(s1:sd≤999)(hC:Corners w)(hd:w.cell? ⟨4,15,none⟩=some (.int .u8 4)) :
  Calls Pz.prog 68 #[.int .i64 sd,.int .i64 P] w (NewSaid w sd P):=by
 have hc:P=2∨P=3∨P=4:=by omega
 rcases hc with rfl|rfl|rfl
 ·exact pnew2_any sd w s0 s1 hC hd
 ·exact pnew3_any sd w s0 s1 hC hd
 ·exact pnew4_any sd w s0 s1 hC hd
end Go.Proofs.YtdianedehhecoaaGreatDoor
/- A host makes its first match: Create. -/
namespace Go.Proofs.YtdianedehhecoaaGreatDoor
open Go.RowKit
end Go.Proofs.YtdianedehhecoaaGreatDoor