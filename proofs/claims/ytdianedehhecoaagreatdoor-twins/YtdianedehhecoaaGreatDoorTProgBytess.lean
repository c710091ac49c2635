/- The bytes of the document's state and of the program's. No walk. -/
import Derived.Test.YtdianedehhecoaaGreatDoorTRels
import Derived.Test.YtdianedehhecoaaGreatDoorTWires
import Derived.Deep.RegionHeld3
import Derived.Deep.MidRow
set_option linter.unusedVariables false
set_option linter.unusedSimpArgs false
set_option maxHeartbeats 8000000
set_option maxRecDepth 100000
namespace Go.Proofs.YtdianedehhecoaaGreatDoor
open Go.RowKit
def headN (S:PS):List Int:=[S.turn,S.last].flatMap twoOf++[(S.gold.length:Int)].map low++S.gold.flatMap twoOf
def unitN (u:PU):List Int:=[u.num].flatMap twoOf++[u.own,u.kind,u.x,u.y,u.hp].map low
def bytesN (S:PS):List Int:=headN S++S.ore.map low++[(S.units.length:Int)].map low++S.units.flatMap unitN
theorem strOf_append (a b:List Int):strOfNums (a++b)=strOfNums a++strOfNums b:=by
 unfold strOfNums
 apply ByteArray.ext
 simp
theorem strOf_low (n:Int):strOfNums [low n]=b1 n:=rfl
theorem strOf_two (n:Int):strOfNums (twoOf n)=b2 n:=rfl
theorem gold_rel (S:RS)(k:Nat)(hk:k≤S.gold.length):goldTo S k=headF S++strOfNums ((S.gold.take k).flatMap twoOf):=by
 induction k with
 | zero=>simp only[goldTo,List.take_zero,List.flatMap_nil];apply ByteArray.ext;simp[strOfNums]
 | succ k ih =>
  rw[List.take_succ_eq_append_getElem (by omega),List.flatMap_append,strOf_append,← ByteArray.append_assoc,← ih (by omega)]
  simp only[goldTo,List.flatMap_cons,List.flatMap_nil,List.append_nil,strOf_two]
  rw[show S.gold.getD k 0=S.gold[k] by simp[List.getD,List.getElem?_eq_getElem (show k<S.gold.length by omega)]]
theorem ore_rel (S:RS)(k:Nat)(hk:k≤S.ore.length):oreTo S k=goldTo S S.gold.length++strOfNums ((S.ore.take k).map low):=by
 induction k with
 | zero=>simp only[oreTo,List.take_zero,List.map_nil];apply ByteArray.ext;simp[strOfNums]
 | succ k ih =>
  rw[List.take_succ_eq_append_getElem (by omega),List.map_append,strOf_append,← ByteArray.append_assoc,← ih (by omega)]
  simp only[oreTo,List.map_cons,List.map_nil,strOf_low]
  rw[show S.ore.getD k 0=S.ore[k] by simp[List.getD,List.getElem?_eq_getElem (show k<S.ore.length by omega)]]
theorem relU_dead (us:List RU)(u:RU)(h:¬ 0<u.hp):relU (us++[u])=relU us:=by
 unfold relU
 rw[cv_push,List.filter_append]
 simp[liveP,cvU,h]
theorem strOf_unit (k:Nat)(u:RU):strOfNums (unitN (cvU k u))=b2 (k+1)++b1 u.own++b1 u.kind++b1 u.x++b1 u.y++b1 u.hp:=by
 apply ByteArray.ext
 simp[strOfNums,unitN,twoOf,low,cvU,b1,b2,byteOf]
theorem unit_rel (S:RS)(k:Nat)(hk:k≤S.units.length):unitTo S k=oreTo S 64++b1 (thereF S.units)++strOfNums ((relU (S.units.take k)).flatMap unitN):=by
 induction k with
 | zero=>simp only[unitTo,List.take_zero,relU,cv,List.mapIdx_nil,List.filter_nil,List.flatMap_nil];apply ByteArray.ext;simp[strOfNums]
 | succ k ih =>
  have hk':k<S.units.length:=by omega
  have ih:=ih (by omega)
  have e:S.units.getD k ru0=S.units[k]:=by simp[List.getD,List.getElem?_eq_getElem hk']
  rw[List.take_succ_eq_append_getElem hk']
  simp only[unitTo,e]
  by_cases c:0<(S.units[k]).hp
  ·rw[if_pos c,relU_push _ _ c,List.flatMap_append,strOf_append,← ByteArray.append_assoc,← ih]
   simp only[List.flatMap_cons,List.flatMap_nil,List.append_nil,strOf_unit]
   have:(S.units.take k).length=k:=by simp;omega
   rw[this]
   simp only[ByteArray.append_assoc]
  ·rw[if_neg c,relU_dead _ _ c,ih]
theorem bytes_rel (S:RS)(h:S.ore.length=64):strOfNums (bytesN (toPS S))=bytesF S:=by
 unfold bytesF bytesN headN
 rw[unit_rel S _ (Nat.le_refl _),ore_rel S 64 (by omega),gold_rel S _ (Nat.le_refl _)]
 rw[List.take_of_length_le (Nat.le_refl _),List.take_of_length_le (Nat.le_refl _),List.take_of_length_le (by omega)]
 simp only[toPS,strOf_append]
 rw[relU_len]
 have e1:strOfNums (([S.turn,(S.units.length:Int)]:List Int).flatMap twoOf)=b2 S.turn++b2 S.units.length:=by
  apply ByteArray.ext
  simp[strOfNums,twoOf,low,b2,byteOf]
 have e2:strOfNums ([(S.gold.length:Int)].map low)=b1 S.gold.length:=rfl
 have e3:strOfNums ([(thereF S.units:Int)].map low)=b1 (thereF S.units):=rfl
 rw[e1,e2,e3]
 rfl
end Go.Proofs.YtdianedehhecoaaGreatDoor
/- The program's Bytes. -/
namespace Go.Proofs.YtdianedehhecoaaGreatDoor
open Go.RowKit
theorem one_at {w0 wr wa:World}{N n c:Nat}{l:List Int}(vs:List Int)(hw:Wrote (fun k=>k=N) w0 N l wr)(hl:l.length≤40000)(hn:vs.length=n)(hvl:n≤1000)(hba:Below wr.heap.size wr wa)
  (hlt:wr.heap.size<wa.heap.size)(hc:∀ i,i<vs.length→wa.cell? ⟨wr.heap.size,i,none⟩=some (.int .i64 (vs.getD i 0))) :
  Calls Pz.prog 84 #[.pointer (some ⟨N,0,none⟩),.slice (some ⟨wr.heap.size,0,none⟩) n c] wa fun e w'=>e=.returned (.tuple #[])∧Wrote (fun k=>k=N) w0 N (l++vs.map low) w':=by
 subst hn
 obtain ⟨⟨ov,h1⟩,h2⟩:=hw
 refine (One_any vs (some ⟨wr.heap.size,0,none⟩) c (h1.tight.below hba) (by omega) hvl (fun i hi=>⟨wr.heap.size,0,rfl,hlt,fun e=>by have:=e.2;omega,by rw[Nat.zero_add];exact hc i hi⟩)).mono ?_
 rintro e w2 ⟨rfl,hw2⟩
 exact ⟨rfl,Wrote.then ⟨⟨ov,h1⟩,h2⟩ hba hw2⟩
theorem two_at {w0 wr wa:World}{N n c:Nat}{l:List Int}(vs:List Int)(hw:Wrote (fun k=>k=N) w0 N l wr)(hl:l.length≤40000)(hn:vs.length=n)(hvl:n≤1000)(hba:Below wr.heap.size wr wa)
  (hlt:wr.heap.size<wa.heap.size)(hc:∀ i,i<vs.length→wa.cell? ⟨wr.heap.size,i,none⟩=some (.int .i64 (vs.getD i 0))) :
  Calls Pz.prog 83 #[.pointer (some ⟨N,0,none⟩),.slice (some ⟨wr.heap.size,0,none⟩) n c] wa fun e w'=>e=.returned (.tuple #[])∧Wrote (fun k=>k=N) w0 N (l++vs.flatMap twoOf) w':=by
 subst hn
 obtain ⟨⟨ov,h1⟩,h2⟩:=hw
 refine (Two_any vs (some ⟨wr.heap.size,0,none⟩) c (h1.tight.below hba) (by omega) hvl (fun i hi=>⟨wr.heap.size,0,rfl,hlt,fun e=>by have:=e.2;omega,by rw[Nat.zero_add];exact hc i hi⟩)).mono ?_
 rintro e w2 ⟨rfl,hw2⟩
 exact ⟨rfl,Wrote.then ⟨⟨ov,h1⟩,h2⟩ hba hw2⟩
theorem two_old {w0 wr:World}{N g n c:Nat}{l:List Int}(vs:List Int)(hw:Wrote (fun k=>k=N) w0 N l wr)(hl:l.length≤40000)(hn:vs.length=n)(hvl:n≤1000)(hg:g<N)(hN:N<w0.heap.size)
  (hc:∀ i,i<vs.length→wr.cell? ⟨g,i,none⟩=some (.int .i64 (vs.getD i 0))) :
  Calls Pz.prog 83 #[.pointer (some ⟨N,0,none⟩),.slice (some ⟨g,0,none⟩) n c] wr fun e w'=>e=.returned (.tuple #[])∧Wrote (fun k=>k=N) w0 N (l++vs.flatMap twoOf) w':=by
 subst hn
 obtain ⟨⟨ov,h1⟩,h2⟩:=hw
 have hz:=h2.size
 refine (Two_any vs (some ⟨g,0,none⟩) c h1 (by omega) hvl (fun i hi=>⟨g,0,rfl,by omega,fun e=>by rcases e with e|e<;>omega,by rw[Nat.zero_add];exact hc i hi⟩)).mono ?_
 rintro e w2 ⟨rfl,hw2⟩
 exact ⟨rfl,Wrote.trans ⟨⟨ov,h1⟩,h2⟩ hw2⟩
theorem info49:(Pz.prog.info? 149).map (·.size)=some 8:=by kernel_rfl
theorem info50:(Pz.prog.info? 150).map (·.size)=some 64:=by kernel_rfl
def row8 (l:List Int)(y:Nat):List Value:=[.int .i64 (l.getD (y*8) 0),.int .i64 (l.getD (y*8+1) 0),.int .i64 (l.getD (y*8+2) 0),.int .i64 (l.getD (y*8+3) 0),.int .i64 (l.getD (y*8+4) 0),.int .i64 (l.getD (y*8+5) 0),.int .i64 (l.getD (y*8+6) 0),.int .i64 (l.getD (y*8+7) 0)]
theorem row8_take (l:List Int)(y:Nat)(hl:l.length=64)(hy:y<8):((l.map (Value.int .i64)).toArray.extract (y*8) (y*8+8))=(row8 l y).toArray:=by
 apply Array.ext
 ·simp[row8];omega
 ·intro i h1 h2
  have hi:i<8:=by simpa [row8] using h2
  rw[Array.getElem_extract]
  simp only[List.getElem_toArray,List.getElem_map]
  have hg:∀ k (hk:k<l.length),l[k]=l.getD k 0:=fun k hk=>by simp[List.getD,List.getElem?_eq_getElem hk]
  rw[hg]
  have hc:i=0∨i=1∨i=2∨i=3∨i=4∨i=5∨i=6∨i=7:=by omega
  rcases hc with rfl|rfl|rfl|rfl|rfl|rfl|rfl|rfl<;>rfl
theorem wpList_row8 {ops:Array Oper}{rest:List Oper}{op:Oper}{a:Act}{w:World}{Q:Exit→Act→World→Prop}(hgd:op.guard=none)(x i:Operand)(ho:op.op=.index 150 x i)
  (l:List Int)(y:Nat)(v0 v1 v2 v3 v4 v5 v6 v7:Int)(hl:l.length=64)(hy:y<8)(hv:row8 l y=[.int .i64 v0,.int .i64 v1,.int .i64 v2,.int .i64 v3,.int .i64 v4,.int .i64 v5,.int .i64 v6,.int .i64 v7])(hx:a.eval x=.agg (l.map (Value.int .i64)).toArray)(hi:a.eval i=.int .i64 y)
  (h:wpList Pz.prog ops Q rest (a.put op.dst (.agg #[.int .i64 v0,.int .i64 v1,.int .i64 v2,.int .i64 v3,.int .i64 v4,.int .i64 v5,.int .i64 v6,.int .i64 v7])) w):wpList Pz.prog ops Q (op :: rest) a w :=
 wpList_plain hgd fun _ hK=>by
  have hu:Pz.prog.underlying 150=some (.array 8 149):=by kernel_rfl
  have hu2:Pz.prog.underlying 149=some (.array 8 3):=by kernel_rfl
  obtain ⟨i49,h49,hs⟩:=Option.map_eq_some_iff.1 info49
  have hagg:(isAgg 149).run Pz.prog w=.ok true w:=by
   unfold isAgg
   rw[Sem.run_bind,run_underlying hu2 w]
   rfl
  have hsz:(sizeOf 149).run Pz.prog w=.ok 8 w:=by kernel_rfl
  have hyi:(0:Int)≤(y:Int)∧(y:Int)<8:=by omega
  have hrun:(Instr.index 150 (.agg (l.map (Value.int .i64)).toArray) (.int .i64 y)).run Pz.prog w=.ok (.agg #[.int .i64 v0,.int .i64 v1,.int .i64 v2,.int .i64 v3,.int .i64 v4,.int .i64 v5,.int .i64 v6,.int .i64 v7]) w:=by
   have he:(#[.int .i64 v0,.int .i64 v1,.int .i64 v2,.int .i64 v3,.int .i64 v4,.int .i64 v5,.int .i64 v6,.int .i64 v7]:Array Value)=(l.map (Value.int .i64)).toArray.extract (y*8) (y*8+8):=by rw[row8_take l y hl hy,hv]
   rw[he]
   simp[Instr.index,asIntOf,run_underlying hu w,hyi,hsz,part,hagg]
   intro hh
   omega
  unfold Oper.wp execOp
  simp only[ho,hx,hi,Sem.run_bind,Sem.run_pure,Result.andThen_ok,hrun]
  exact hK _ _ h
theorem ore_take (l:List Int)(y:Nat)(hl:l.length=64)(hy:y<8):(l.take (y*8)).map low++[l.getD (y*8) 0,l.getD (y*8+1) 0,l.getD (y*8+2) 0,l.getD (y*8+3) 0,l.getD (y*8+4) 0,l.getD (y*8+5) 0,l.getD (y*8+6) 0,l.getD (y*8+7) 0].map low=(l.take ((y+1)*8)).map low:=by
 rw[← List.map_append]
 congr 1
 have hs:∀ k,k<64→l.take k++[l.getD k 0]=l.take (k+1):=fun k hk=>by
  rw[List.take_succ_eq_append_getElem (by omega)]
  simp[List.getD,List.getElem?_eq_getElem (show k<l.length by omega)]
 have e:∀ (A:List Int) (a b c d e f g h:Int),A++[a,b,c,d,e,f,g,h]=((((((((A++[a])++[b])++[c])++[d])++[e])++[f])++[g])++[h]):=by intros;simp
 rw[e,hs _ (by omega),hs _ (by omega),hs _ (by omega),hs _ (by omega),hs _ (by omega),hs _ (by omega),hs _ (by omega),hs _ (by omega)]
 rw[show (y+1)*8=y*8+7+1 by omega]
theorem wroteBelow {w w0 w1:World}{l:List Int}(ha0:Below w.heap.size w w0)(hw:Wrote (fun k=>k=w.heap.size) w0 w.heap.size l w1):Below w.heap.size w w1 :=
 ha0.trans (hw.2.below (B:=w.heap.size) (fun j e=>Nat.le_of_eq e.symm) ha0.size)
theorem PAt.wrote {w w0 w1:World}{O:Nat→Prop}{b:Nat}{S:PS}{gv uv:Value}{bs:List Nat}{l:List Int}(h:PAt w O b S gv uv bs)(ha0:Below w.heap.size w w0)(hw:Wrote (fun k=>k=w.heap.size) w0 w.heap.size l w1):PAt w1 O b S gv uv bs :=
 h.below (wroteBelow ha0 hw)
theorem flat_two (l:List Int):(l.flatMap twoOf).length=2*l.length:=by
 induction l with
 | nil=>rfl
 | cons a l ih=>simp[List.flatMap_cons,twoOf,ih];omega
theorem flat_unit (l:List PU):(l.flatMap unitN).length=7*l.length:=by
 induction l with
 | nil=>rfl
 | cons a l ih=>simp[List.flatMap_cons,unitN,twoOf,ih];omega
theorem head_len (S:PS):(headN S).length=5+2*S.gold.length:=by
 unfold headN
 simp only[List.length_append,flat_two,List.length_map,List.length_cons,List.length_nil]
theorem new_cells (w:World)(vs:List Int)(e:TypeId)(i:Nat)(hi:i<vs.length):(w.alloc (.cells (vs.map (Value.int .i64)).toArray e)).cell? ⟨w.heap.size,i,none⟩=some (.int .i64 (vs.getD i 0)) :=
 (BlkAt.new w (vs.map (Value.int .i64)) e).cell (by simp[List.getD,List.getElem?_eq_getElem hi])
theorem PBytes_any {w:World}{O:Nat→Prop}{b g:Nat}{S:PS}{gv uv:Value}{bs:List Nat}(h:PAt w O b S gv uv bs)(hob:uv.ownBlock=some g)(hI:PInv S) :
  Calls Pz.prog 41 #[.pointer (some ⟨b,0,none⟩)] w fun e w'=>e=.returned (.string (strOfNums (bytesN S)))∧Below w.heap.size w w':=by
 have hn:=hI.n
 have hg2:=hI.g2
 have hg4:=hI.g4
 have hore:=h.ore
 have hbl:=h.st.lt
 obtain ⟨cap,hv,-,-⟩:=h.unit hob
 obtain ⟨gg,gcap,hgv,gob,gfr,gc⟩:=h.goldCells (by omega)
 subst hv
 subst hgv
 have hggl:=h.gold.lt gob
 have HH:=(show Hid _ from h)
 have HI:=(show Hid _ from hI)
 have ha0:Below w.heap.size w (w.alloc (.cells #[.slice none 0 0] 176)):=(Below.refl _ _).alloc (Nat.le_refl _) _
 have hw0:Wrote (fun k=>k=w.heap.size) (w.alloc (.cells #[.slice none 0 0] 176)) w.heap.size [] (w.alloc (.cells #[.slice none 0 0] 176)) :=
  Wrote.mk (ov:=.slice none 0 0) ⟨BlkAt.new w [.slice none 0 0] 176,⟨rfl,.inl ⟨rfl,rfl⟩⟩,rfl,fun k e=>by cases e⟩ (Keep.refl _ _)
 have HA0:=(show Hid _ from ha0)
 have HW0:=(show Hid _ from hw0)
 have c0:w.cell? ⟨b,0,none⟩=some (.int .i64 S.turn):=h.st.cell rfl
 have c1:w.cell? ⟨b,1,none⟩=some (.int .i64 S.last):=h.st.cell rfl
 clear h hI gc gfr ha0 hw0
 go_enter Pz.func41,Tryz.ntmps41
 go_wp2_with fail
 have ha0:=HA0.out
 have hw0:=HW0.out
 clear HA0 HW0
 have z0:w.heap.size<(w.alloc (.cells #[.slice none 0 0] 176)).heap.size:=by simp
 revert ha0 hw0 z0
 generalize w.alloc (.cells #[.slice none 0 0] 176)=w0
 intro ha0 hw0 z0
 have c0':w0.cell? ⟨b,0,none⟩=some (.int .i64 S.turn):=(ha0.cell (p:=⟨b,0,none⟩) hbl).trans c0
 have c1':w0.cell? ⟨b,1,none⟩=some (.int .i64 S.last):=(ha0.cell (p:=⟨b,1,none⟩) hbl).trans c1
 have Ha0:=(show Hid _ from ha0)
 have HT:Hid (Calls Pz.prog 83 #[.pointer (some ⟨w.heap.size,0,none⟩),.slice (some ⟨w0.heap.size,0,none⟩) 2 2] (w0.alloc (.cells #[.int .i64 S.turn,.int .i64 S.last] 3)).drew fun e w1=>e=.returned (.tuple #[])∧(w1.cell? ⟨b,0,none⟩=some (.int .i64 S.turn)∧w1.cell? ⟨b,1,none⟩=some (.int .i64 S.last)) ∧
   Hid (Wrote (fun k=>k=w.heap.size) w0 w.heap.size ([]++[S.turn,S.last].flatMap twoOf) w1)):=by
  refine (two_at (w0:=w0) (wr:=w0) (N:=w.heap.size) (n:=2) (l:=[]) [S.turn,S.last] hw0 (by simp) rfl (by omega) ((Below.refl _ _).alloc (Nat.le_refl _) _).drew (by simp) (fun i hi=>new_cells w0 [S.turn,S.last] 3 i hi)).mono ?_
  rintro e w1 ⟨rfl,hw1⟩
  have hb1:=wroteBelow ha0 hw1
  exact ⟨rfl,⟨(hb1.cell (p:=⟨b,0,none⟩) hbl).trans c0,(hb1.cell (p:=⟨b,1,none⟩) hbl).trans c1⟩,hw1⟩
 clear ha0 hw0
 go_region_held3 (fun w'=>w'.cell? ⟨b,0,none⟩=some (.int .i64 S.turn)∧w'.cell? ⟨b,1,none⟩=some (.int .i64 S.last)) (first|assumption|go_keep) (first|(go_at_call 83;refine Calls.mono HT.out ?_;rintro e w1 ⟨rfl,hqs,hqw⟩))
 all_goals
  clear HT hqs c0' c1'
  have h1:=HH.out.wrote Ha0.out hqw.out
  have c2:=h1.cGold
  have Hqw:=hqw
  clear h1 hqw
  go_wp2_with fail
  refine (one_at (n:=1) (c:=1) [(S.gold.length:Int)] Hqw.out (by simp[twoOf]) rfl (by omega) ((Below.refl _ _).alloc (Nat.le_refl _) _) (by simp) (fun i hi=>new_cells w1 [(S.gold.length:Int)] 3 i hi)).mono ?_
  rintro e w2 ⟨rfl,hw2⟩
  have h2:=HH.out.wrote Ha0.out hw2
  have c3:=h2.cGold
  obtain ⟨gg2,gcap2,hgv2,gob2,-,gc2⟩:=h2.goldCells (by omega)
  obtain ⟨rfl⟩:gg=gg2:=by rw[gob]at gob2;exact Option.some.inj gob2
  have Hw2:=(show Hid _ from hw2)
  have Gc2:=(show Hid _ from gc2)
  clear hw2 h2 gc2 hgv2 gob2 Hqw c2
  go_wp2_with fail
  refine (two_old (n:=S.gold.length) (g:=gg) S.gold Hw2.out (by simp[twoOf]) rfl (by omega) hggl z0 (fun i hi=>Gc2.out i hi)).mono ?_
  rintro e w3 ⟨rfl,hw3⟩
  have hhd:([]++[S.turn,S.last].flatMap twoOf)++[(S.gold.length:Int)].map low++S.gold.flatMap twoOf=headN S:=by unfold headN;rw[List.nil_append]
  rw[hhd]at hw3
  have h3:=HH.out.wrote Ha0.out hw3
  have hrange:w3.rangeAt b 3 (S.ore.map (Value.int .i64)):=fun j v hj=>by
   have hj64:j<64:=by
    have:=(List.getElem?_eq_some_iff.1 hj).1
    simpa [hore] using this
   have e:=h3.cOre hj64
   rw[List.getElem?_map]at hj
   have e2:S.ore[j]? = some (S.ore.getD j 0):=by simp[List.getD,List.getElem?_eq_getElem (show j<S.ore.length by omega)]
   rw[e2]at hj
   rw[e,← hj]
   rfl
  have hi50:(Pz.prog.info? 150).map (·.size)=some (S.ore.map (Value.int .i64)).length:=by rw[List.length_map,hore];exact info50
  have hu50:Pz.prog.underlying 150=some (.array 8 149):=by kernel_rfl
  have Hr:=(show Hid _ from hrange)
  have Hi:=(show Hid _ from hi50)
  have Hu:=(show Hid _ from hu50)
  have Hw3:=(show Hid _ from hw3)
  clear hw3 h3 hrange hi50 hu50 Hw2 Gc2 hhd c3
  go_wp2_with (refine wpList_load_mid rfl 150 (.tmp 33) rfl b 3 rfl (S.ore.map (Value.int .i64)) _ Hr.out Hu.out rfl Hi.out ?_)
  go_loopw [35] (fun i wr=>∃ y:Nat,y≤8∧i=.int .i64 y∧Wrote (fun k=>k=w.heap.size) w0 w.heap.size (headN S++(S.ore.take (y*8)).map low) wr) (fun i _=>8-(intOf i).toNat)
  case atStart=>exact ⟨0,Nat.zero_le _,rfl,by rw[Nat.zero_mul,List.take_zero,List.map_nil,List.append_nil];exact Hw3.out⟩
  case round =>
   clear Hw3 Hr Hi Hu
   obtain ⟨y,hy,rfl,hwr⟩:=hrel
   by_cases hlt:y<8
   ·have hyi:(y:Int)<8:=by omega
    have HO:=(show Hid _ from ore_take S.ore y hore hlt)
    have HV:Hid (row8 S.ore y=[.int .i64 (S.ore.getD (y*8) 0),.int .i64 (S.ore.getD (y*8+1) 0),.int .i64 (S.ore.getD (y*8+2) 0),.int .i64 (S.ore.getD (y*8+3) 0),.int .i64 (S.ore.getD (y*8+4) 0),.int .i64 (S.ore.getD (y*8+5) 0),.int .i64 (S.ore.getD (y*8+6) 0),.int .i64 (S.ore.getD (y*8+7) 0)]):=rfl
    have Hwr:=(show Hid _ from hwr)
    have Hln:Hid ((headN S++(S.ore.take (y*8)).map low).length≤40000):=by
     unfold Hid
     rw[List.length_append,head_len,List.length_map,List.length_take]
     omega
    clear hwr
    generalize S.ore.getD (y*8) 0=v0 at *
    generalize S.ore.getD (y*8+1) 0=v1 at *
    generalize S.ore.getD (y*8+2) 0=v2 at *
    generalize S.ore.getD (y*8+3) 0=v3 at *
    generalize S.ore.getD (y*8+4) 0=v4 at *
    generalize S.ore.getD (y*8+5) 0=v5 at *
    generalize S.ore.getD (y*8+6) 0=v6 at *
    generalize S.ore.getD (y*8+7) 0=v7 at *
    go_wp2_with (refine wpList_row8 rfl (.tmp 34) (.tmp 35) rfl S.ore y v0 v1 v2 v3 v4 v5 v6 v7 hore hlt HV.out rfl rfl ?_)
    refine (one_at (n:=8) (c:=8) [v0,v1,v2,v3,v4,v5,v6,v7] Hwr.out Hln.out rfl (by omega) ((Below.refl _ _).alloc (Nat.le_refl _) _) (by simp) (fun i hi=>new_cells wr [v0,v1,v2,v3,v4,v5,v6,v7] 149 i hi)).mono ?_
    rintro e w4 ⟨rfl,hw4⟩
    rw[List.append_assoc,HO.out]at hw4
    have Hw4:=(show Hid _ from hw4)
    clear hw4 Hwr HO HV Hln
    go_wp2
    go_roundw
    case rel =>
     go_light
     first|exact ⟨y+1,by omega,by go_num,Hw4.out⟩|((repeat apply Exists.intro);exact ⟨⟨y+1,by omega,by go_num,Hw4.out⟩,rfl⟩)
    case measure=>simp[intOf];omega
   ·have hT:S.ore.take (y*8)=S.ore:=List.take_of_length_le (by omega)
    rw[hT]at hwr
    have h4:=HH.out.wrote Ha0.out hwr
    have c67:=h4.cUnits
    have Hwr:=(show Hid _ from hwr)
    have Hln:Hid ((headN S++S.ore.map low).length≤100):=by
     unfold Hid
     rw[List.length_append,head_len,List.length_map]
     omega
    clear hwr h4 hT
    go_wp2_with fail
    refine (one_at (n:=1) (c:=1) [(S.units.length:Int)] Hwr.out (Nat.le_trans Hln.out (by omega)) rfl (by omega) ((Below.refl _ _).alloc (Nat.le_refl _) _) (by simp) (fun i hi=>new_cells wr [(S.units.length:Int)] 3 i hi)).mono ?_
    rintro e w5 ⟨rfl,hw5⟩
    have h5:=HH.out.wrote Ha0.out hw5
    have c67':=h5.cUnits
    have Hw5:=(show Hid _ from hw5)
    have Hln2:Hid ((headN S++S.ore.map low++[(S.units.length:Int)].map low).length≤101):=by
     unfold Hid
     rw[List.length_append]
     have:=Hln.out
     simp only[List.length_map,List.length_singleton]
     omega
    have HBN:Hid (bytesN S=headN S++S.ore.map low++[(S.units.length:Int)].map low++S.units.flatMap unitN):=rfl
    clear hw5 h5 Hwr c67 Hln
    generalize headN S++S.ore.map low++[(S.units.length:Int)].map low=L at *
    go_wp2
    go_loopw [53] (fun i wq=>∃ k:Nat,k≤S.units.length∧i=.int .i64 k∧Wrote (fun k=>k=w.heap.size) w0 w.heap.size (L++(S.units.take k).flatMap unitN) wq) (fun i _=>S.units.length-(intOf i).toNat)
    case atStart=>exact ⟨0,Nat.zero_le _,rfl,by rw[List.take_zero,List.flatMap_nil,List.append_nil];exact Hw5.out⟩
    case round =>
     clear Hw5
     obtain ⟨k,hk,rfl,hwq⟩:=hrel
     by_cases hlk:k<S.units.length
     ·have h6:=HH.out.wrote Ha0.out hwq
      obtain ⟨cap6,hv6,-,hc6⟩:=h6.unit hob
      have hcell:=hc6 k hlk
      have hm:=meth_any _ (h6.kinds k hlk) (bs.getD k 0)
      have hul:=(HH.out.each k hlk).lt
      have d0:wr.cell? ⟨bs.getD k 0,0,none⟩=some (.int .i64 (S.units.getD k pu0).num):=(h6.each k hlk).cell rfl
      have HC:Hid (∀ W,Below w.heap.size w W→W.cell? ⟨bs.getD k 0,1,none⟩=some (.int .i64 (S.units.getD k pu0).own)∧W.cell? ⟨bs.getD k 0,2,none⟩=some (.int .i64 (S.units.getD k pu0).kind)∧W.cell? ⟨bs.getD k 0,3,none⟩=some (.int .i64 (S.units.getD k pu0).x)∧W.cell? ⟨bs.getD k 0,4,none⟩=some (.int .i64 (S.units.getD k pu0).y)∧W.cell? ⟨bs.getD k 0,5,none⟩=some (.int .i64 (S.units.getD k pu0).hp)):=fun W hW =>
       ⟨((HH.out.below hW).each k hlk).cell rfl,((HH.out.below hW).each k hlk).cell rfl,((HH.out.below hW).each k hlk).cell rfl,((HH.out.below hW).each k hlk).cell rfl,((HH.out.below hW).each k hlk).cell rfl⟩
      have HT:Hid (L++(S.units.take (k+1)).flatMap unitN=(L++(S.units.take k).flatMap unitN)++[(S.units.getD k pu0).num].flatMap twoOf++[(S.units.getD k pu0).own,(S.units.getD k pu0).kind,(S.units.getD k pu0).x,(S.units.getD k pu0).y,(S.units.getD k pu0).hp].map low):=by
       unfold Hid
       rw[takeP_succ S.units k hlk,List.flatMap_append,List.flatMap_cons,List.flatMap_nil,List.append_nil]
       simp only[unitN,List.append_assoc]
      have Hlq:Hid ((L++(S.units.take k).flatMap unitN).length≤8000):=by
       unfold Hid
       rw[List.length_append,flat_unit,List.length_take]
       have:=Hln2.out
       omega
      have Hwq:=(show Hid _ from hwq)
      unfold uVal at hcell
      clear hwq h6 hc6 hv6
      generalize L++(S.units.take k).flatMap unitN=Lk at *
      generalize S.units.getD k pu0=u at *
      generalize bs.getD k 0=ub at *
      generalize ptrT u.kind=T at *
      go_wp2_with (go_at_call 250;refine (common_any _ _).mono ?_;rintro e w' ⟨rfl,hx'⟩;rw[hx'];clear hx' w')
      refine (two_at (n:=1) (c:=1) [u.num] Hwq.out (Nat.le_trans Hlq.out (by omega)) rfl (by omega) ((Below.refl _ _).alloc (Nat.le_refl _) _) (by simp) (fun i hi=>new_cells wr [u.num] 3 i hi)).mono ?_
      rintro e w7 ⟨rfl,hw7⟩
      obtain ⟨e1,e2,e3,e4,e5⟩:=HC.out w7 (wroteBelow Ha0.out hw7)
      have HF:Hid (Calls Pz.prog 84 #[.pointer (some ⟨w.heap.size,0,none⟩),.slice (some ⟨w7.heap.size,0,none⟩) 5 5] (w7.alloc (.cells #[.int .i64 u.own,.int .i64 u.kind,.int .i64 u.x,.int .i64 u.y,.int .i64 u.hp] 3)).drew fun e w1=>e=.returned (.tuple #[]) ∧
        (w1.cell? ⟨ub,1,none⟩=some (.int .i64 u.own)∧w1.cell? ⟨ub,2,none⟩=some (.int .i64 u.kind)∧w1.cell? ⟨ub,3,none⟩=some (.int .i64 u.x)∧w1.cell? ⟨ub,4,none⟩=some (.int .i64 u.y)∧w1.cell? ⟨ub,5,none⟩=some (.int .i64 u.hp)) ∧
        Hid (Wrote (fun k=>k=w.heap.size) w0 w.heap.size (L++(S.units.take (k+1)).flatMap unitN) w1)):=by
       refine (one_at (wr:=w7) (n:=5) (c:=5) [u.own,u.kind,u.x,u.y,u.hp] hw7 (by rw[List.length_append];have:=Hlq.out;simp[twoOf];omega) rfl (by omega) ((Below.refl _ _).alloc (Nat.le_refl _) _).drew (by simp) (fun i hi=>new_cells w7 [u.own,u.kind,u.x,u.y,u.hp] 3 i hi)).mono ?_
       rintro e w8 ⟨rfl,hw8⟩
       exact ⟨rfl,HC.out w8 (wroteBelow Ha0.out hw8),by rw[HT.out];exact hw8⟩
      clear hw7 HC HT Hwq Hlq d0 hcell hm c67'
      go_wp2_with fail
      go_region_held3 (fun w'=>w'.cell? ⟨ub,1,none⟩=some (.int .i64 u.own)∧w'.cell? ⟨ub,2,none⟩=some (.int .i64 u.kind)∧w'.cell? ⟨ub,3,none⟩=some (.int .i64 u.x)∧w'.cell? ⟨ub,4,none⟩=some (.int .i64 u.y)∧w'.cell? ⟨ub,5,none⟩=some (.int .i64 u.hp)) (first|assumption|go_keep) (first|(go_at_call 84;refine Calls.mono HF.out ?_;rintro e w8 ⟨rfl,hqs,hqw⟩))
      all_goals
       clear HF hqs e1 e2 e3 e4 e5
       go_wp2
       go_roundw
       case rel =>
        go_light
        first|exact ⟨k+1,by omega,by go_num,hqw.out⟩|((repeat apply Exists.intro);exact ⟨⟨k+1,by omega,by go_num,hqw.out⟩,rfl⟩)
       case measure=>simp[intOf];omega
     ·have hT:S.units.take k=S.units:=List.take_of_length_le (by omega)
      rw[hT,← HBN.out]at hwq
      have hb:=wroteBelow Ha0.out hwq
      obtain ⟨⟨ov,hwa⟩,-⟩:=hwq
      have HX:=(show Hid _ from Text_any hwa)
      have Hb:=(show Hid _ from hb)
      clear hwa hb hT
      go_wp2_with (go_at_call 85;refine Calls.mono HX.out ?_;rintro e w' ⟨rfl,rfl⟩)
      go_ret
      exact ⟨rfl,Hb.out⟩
end Go.Proofs.YtdianedehhecoaaGreatDoor