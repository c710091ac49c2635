/- Host.Tick of a host, one of whose matches is chosen: what becomes of a play. -/
import Derived.Test.YtdianedehhecoaaGreatDoorTCoE
import Derived.Test.YtdianedehhecoaaGreatDoorTPlayTicks
set_option linter.unusedSectionVars false
set_option linter.unusedVariables false
set_option linter.unusedSimpArgs false
set_option maxRecDepth 20000
namespace Go.Proofs.YtdianedehhecoaaGreatDoor.Co
variable [Loops]
open Go.Conc (G)
open Go.RowKit
theorem haunts_old {u:World}{j:Nat}(hj:j<u.heap.size):(haunt (u.alloc gCells) u.heap.size).heap[j]? = u.heap[j]?:=by
 show (((((u.heap.push gCells).setIfInBounds u.heap.size _).push _).push _):Array Obj)[j]? = _
 rw[Array.getElem?_push,if_neg (by simp;omega),Array.getElem?_push,if_neg (by simp;omega),Array.getElem?_setIfInBounds_ne (by omega),Array.getElem?_push,if_neg (by omega)]
theorem haunts_size {u:World}:(haunt (u.alloc gCells) u.heap.size).heap.size=u.heap.size+3:=by simp [haunt]
structure Stays (D:Nat→Prop)(W w':World):Prop where
 os:w'.os=W.os
 output:w'.output=W.output
 size:W.heap.size≤w'.heap.size
 block:∀ j,j<W.heap.size→¬ D j→w'.heap[j]? = W.heap[j]?
theorem Stays.trans {D:Nat→Prop}{a b c:World}(h:Stays D a b)(g:Stays (Nw D a.heap.size) b c):Stays D a c :=
 ⟨g.os.trans h.os,g.output.trans h.output,Nat.le_trans h.size g.size,fun j hj hd=>(g.block j (Nat.lt_of_lt_of_le hj h.size) (fun x=>x.elim hd fun y=>by omega)).trans (h.block j hj hd)⟩
theorem Stays.mono {D D':Nat→Prop}{a b:World}(h:Stays D a b)(hD:∀ k,D k→D' k):Stays D' a b:=⟨h.os,h.output,h.size,fun j hj hd=>h.block j hj fun x=>hd (hD j x)⟩
section
variable {W:World} {D:Nat→Prop} {Q:PSt} {f:PIx→Nat→Prop} {sd:Int} {P:Nat} {T:List (List RC)} {nb cap:Nat}
def TickH (W:World)(D:Nat→Prop)(Q:PSt)(T:List (List RC))(w':World):Prop :=
 Stays D W w'∧(((overB Q.M.S=true∨overB Q.M.S=false∧T.length=1000)∧∃ f',PG w' (Nw D W.heap.size) Q f')∨(overB Q.M.S=false∧T.length<1000∧∃ M' f',Ticked Q.M M'∧PG w' (Nw D W.heap.size) { Q with M:=M' } f'))
theorem tick_pg (h:PG W D Q f)(hH:Hist sd P Q T)(hn:W.cell? ⟨nb,0,none⟩=some (.int .i64 Q.m))(hd:W.cell? ⟨4,15,none⟩=some (.int .u8 4))(hdl:¬ D 4) :
  CB PP 34 #[pW Q.hbk,.slice (some ⟨nb,0,none⟩) 1 cap] W fun v w'=>v=.int .i64 0∧TickH W D Q T w':=by
 obtain ⟨g,hM⟩:=h.mat
 have hM0:=hM.own (D':=fun k=>f .mt k∧k<W.heap.size) fun k hk hl=>⟨hk,hl⟩
 have hd4:=cell_lt hd
 have hch:∀ t d,Calls PP.s 70 #[pW Q.hbk,.slice (some ⟨nb,0,none⟩) 1 cap] (re W t d) fun e w'=>∃ ch,e=.returned (.tuple #[ch,.bool true])∧Chosen W Q.M.mb ch w':=fun t d=>choose_at (w:=re W t d) (h.room.on rfl rfl) (hM.cells.same rfl) rfl hn
 have hlike:∀ (ch:Value) (u u':World),Chosen W Q.M.mb ch u→like u' u→Chosen W Q.M.mb ch u':=by
  rintro ch u u' ⟨cb,cp,e,c1,c2,c3,c4,c5,c6,c7⟩ ⟨l1,l2,l3⟩
  exact ⟨cb,cp,e,(World.cell?_of_block (w:=u) (by rw[l1])).trans c1,c2,by rw[l1];exact c3,by rw[l1];exact c4,l2.trans c5,l3.trans c6,fun j hj=>by rw[l1];exact c7 j hj⟩
 have hold:∀ (ch:Value) (u:World),Chosen W Q.M.mb ch u→∀ t d j,j<W.heap.size→(re (haunt (u.alloc gCells) u.heap.size) t d).heap[j]? = W.heap[j]?:=by
  rintro ch u ⟨cb,cp,e,c1,c2,c3,c4,c5,c6,c7⟩ t d j hj
  exact (haunts_old (u:=u) (by omega)).trans (c7 j hj)
 by_cases hi:overB Q.M.S=true∨overB Q.M.S=false∧Q.M.S.turn=1000
 ·refine (host_tick (C:=fun ch u=>Chosen W Q.M.mb ch u) (ma:=Q.M.mb) (R:=fun u t d e w'=>e=.returned (.tuple #[])∧Below (re (haunt (u.alloc gCells) u.heap.size) t d).heap.size (re (haunt (u.alloc gCells) u.heap.size) t d) w') hch ?_ ?_ ?_ ?_).mono ?_
  ·rintro ch u u' hc ⟨l1,l2,l3⟩
   exact hlike ch u u' hc ⟨l1.symm,l2.symm,l3.symm⟩
  ·rintro ch u ⟨cb,cp,e,c1,c2,c3,_⟩
   exact ⟨cb,cp,e,c1,c3⟩
  ·rintro ch u _ t d e w' ⟨he,_⟩
   exact he
  ·intro ch u hc t d
   exact (hM0.on fun j _ hj=>hold ch u hc t d j hj).idle h.ok.lock hi
  ·rintro v w' ⟨rfl,ch,u,hc,t,d,t',d',-,hb⟩
   have hz:(re (haunt (u.alloc gCells) u.heap.size) t d).heap.size=u.heap.size+3:=haunts_size
   obtain ⟨cb,cp,e,c1,c2,c3,c4,c5,c6,c7⟩:=hc
   have hz2:(re (haunt (u.alloc gCells) u.heap.size) t d).heap.size≤w'.heap.size:=hb.size
   have hall:∀ j,j<W.heap.size→w'.heap[j]? = W.heap[j]?:=fun j hj=>(hb.block j (by omega)).trans ((haunts_old (u:=u) (by omega)).trans (c7 j hj))
   refine ⟨rfl,⟨hb.os.trans c5,hb.output.trans c6,by omega,fun j hj _=>hall j hj⟩,.inl ⟨?_,_,(h.on fun k _ hl=>hall k hl).own fun k hk _=>.inl hk⟩⟩
   rcases hi with x|⟨x,y⟩
   ·exact .inl x
   ·rw[hH.turn]at y
    exact .inr ⟨x,by omega⟩
 ·have hov:overB Q.M.S=false:=by
   cases e:overB Q.M.S
   ·rfl
   ·exact absurd (.inl e) hi
  have htn:=hH.turn
  have hmo:=hH.most
  have ht:T.length<1000:=by
   rcases Nat.lt_or_ge T.length 1000 with x|x
   ·exact x
   ·exact absurd (.inr ⟨hov,by rw[htn];omega⟩) hi
  refine (host_tick (C:=fun ch u=>Chosen W Q.M.mb ch u) (ma:=Q.M.mb) (R:=fun u t d e w'=>e=.returned (.tuple #[])∧∃ M' g',Ticked Q.M M'∧MG w' (Nw (fun k=>f .mt k∧k<W.heap.size) (re (haunt (u.alloc gCells) u.heap.size) t d).heap.size) M' g'∧Keep (fun k=>f .mt k∧k<W.heap.size) (re (haunt (u.alloc gCells) u.heap.size) t d) w') hch ?_ ?_ ?_ ?_).mono ?_
  ·rintro ch u u' hc ⟨l1,l2,l3⟩
   exact hlike ch u u' hc ⟨l1.symm,l2.symm,l3.symm⟩
  ·rintro ch u ⟨cb,cp,e,c1,c2,c3,_⟩
   exact ⟨cb,cp,e,c1,c3⟩
  ·rintro ch u _ t d e w' ⟨he,_⟩
   exact he
  ·intro ch u hc t d
   refine (hM0.on fun j _ hj=>hold ch u hc t d j hj).tick h.ok.lock hov (by rw[htn];omega) (by rw[hH.hlen];omega) (fun v hv=>?_) ((World.cell?_of_block (w:=W) (hold ch u hc t d _ hd4)).trans hd) (fun x=>hdl (h.low _ _ x.1 x.2))
   obtain ⟨j,hj⟩:=List.mem_iff_getElem?.1 hv
   have:=hH.ts_le hj
   omega
  ·rintro v w' ⟨rfl,ch,u,hc,t,d,t',d',-,M',g',hT,hM',hk⟩
   have hz:(re (haunt (u.alloc gCells) u.heap.size) t d).heap.size=u.heap.size+3:=haunts_size
   have hold':=hold ch u hc t d
   obtain ⟨cb,cp,e,c1,c2,c3,c4,c5,c6,c7⟩:=hc
   have hz2:(re (haunt (u.alloc gCells) u.heap.size) t d).heap.size≤w'.heap.size:=hk.size
   have hall:∀ j,j<W.heap.size→¬ f .mt j→w'.heap[j]? = W.heap[j]?:=fun j hj hn=>(hk.block j (by omega) (fun x=>hn x.1)).trans (hold' j hj)
   have hkW:Keep (f .mt) W (re w' W.tape W.drawn):=⟨hk.os.trans c5,rfl,hk.output.trans c6,by show W.heap.size≤w'.heap.size;omega,hall⟩
   have hMW:MG (re w' W.tape W.drawn) (Nw (f .mt) W.heap.size) M' _:=(hM'.own (D':=Nw (f .mt) W.heap.size) fun k hd _=>hd.imp (fun x=>x.1) fun x=>by omega).on (w':=re w' W.tape W.drawn) fun k _ _=>rfl
   have hps:M'.ps.length=Q.M.ps.length:=by rw[hT.ps,List.length_map]
   have hws:M'.ws.map (·.b)=Q.M.ws.map (·.b):=by
    apply List.ext_getElem?
    intro j
    rw[List.getElem?_map,List.getElem?_map]
    cases hj:Q.M.ws[j]? with
    | none =>
     have:M'.ws[j]? = none:=by
      rw[List.getElem?_eq_none_iff]at hj ⊢
      rw[hT.ws.len]
      exact hj
     rw[this]
    | some x =>
     obtain ⟨y,hy,hb,_⟩:=hT.ws.at_ j x hj
     rw[hy]
     simp[hb]
   obtain ⟨f',h',hk'⟩:=h.goes hMW hkW hps hws hT.mb (hT.lk.trans h.ok.lock)
   exact ⟨rfl,⟨hk'.os,hk'.output,hk'.size,hk'.block⟩,.inr ⟨hov,ht,M',_,hT,h'.on (w':=w') fun k _ _=>rfl⟩⟩
end
end Go.Proofs.YtdianedehhecoaaGreatDoor.Co
/- Play.tick: up to Host.Tick. -/
namespace Go.Proofs.YtdianedehhecoaaGreatDoor.Co
variable [Loops]
open Go.Conc (G)
open Go.RowKit
noncomputable def c14:Code:=(Tryz.f14.body).getD .skip
def opsOf:Code→Array Oper
 | .region _ ops _=>ops
 | _=>#[]
noncomputable def ops14:Array Oper:=opsOf (sq1 (sq2 c14))
noncomputable def rest14:Code:=sq2 (sq2 c14)
theorem c14_eq:c14=.seq (sq1 c14) (.seq (.region 1 ops14 true) rest14):=by kernel_rfl
def ab (pb:Nat)(t3 t7 t8 t9 t10 t11 t12 t13 t14 t15 t16:Value):Act:=⟨#[pW pb,undef,.bool false,t3,undef,undef,undef,t7,t8,t9,t10,t11,t12,t13,t14,t15,t16,undef,undef,undef,undef,undef,undef,undef,undef,undef,undef,undef,undef,undef,undef,undef,undef,undef,undef,undef,undef,undef,undef,undef,undef,undef,undef,undef,undef,undef,undef,undef,undef,undef,undef,undef,undef,undef,undef,undef,undef,undef,undef,undef,undef,undef,undef,undef,undef,undef,undef,undef,undef,undef],[]⟩
theorem up2 {P:Program}{ops:Array Oper}{K:Act→World→Prop}{n i j:Nat}{l:Array Bool}{a:Act}{w:World}(hr:Region.ready .any ops l=[i,j])(hi:wpOp P ops (fun e a w=>e=.normal∧K a w) i (wpUp P .any ops K n (l.setIfInBounds i true)) a w)(hj:wpOp P ops (fun e a w=>e=.normal∧K a w) j (wpUp P .any ops K n (l.setIfInBounds j true)) a w):wpUp P .any ops K (n+1) l a w:=by
 refine ⟨by rw[hr];simp,fun q hq=>?_⟩
 rw[hr]at hq
 rcases List.mem_cons.1 hq with rfl|hq
 ·exact hi
 ·obtain rfl:q=j:=by simpa using hq
  exact hj
theorem up1 {P:Program}{ops:Array Oper}{K:Act→World→Prop}{n i:Nat}{l:Array Bool}{a:Act}{w:World}(hr:Region.ready .any ops l=[i])(hi:wpOp P ops (fun e a w=>e=.normal∧K a w) i (wpUp P .any ops K n (l.setIfInBounds i true)) a w):wpUp P .any ops K (n+1) l a w:=by
 refine ⟨by rw[hr];simp,fun q hq=>?_⟩
 rw[hr]at hq
 obtain rfl:q=i:=by simpa using hq
 exact hi
theorem wpOp_val {P:Program}{ops:Array Oper}{Q:Exit→Act→World→Prop}{K':Act→World→Prop}{i:Nat}{a:Act}{w w':World}{o:Oper}{v:Value}(ho:ops[i]? = some o)(hg:o.guard=none)(hr:(execOp a.eval o).run P w=.ok (.value v) w')(h:K' (a.put o.dst v) w'):wpOp P ops Q i K' a w:=by
 unfold wpOp
 rw[ho]
 dsimp only
 rw[if_pos (by unfold Region.wanted;rw[hg])]
 refine .inl ?_
 unfold Oper.wp
 rw[hr]
 exact h
section
variable {mm:Int} {pb hbk nb:Nat} {W:World} {Q:Exit→Act→World→Prop} {K':Act→World→Prop} {t3 t7 t8 t9 t10 t11 t12 t13 t14 t15 t16:Value}
theorem op14_0 (h:K' (ab pb t3 (pW pb) t8 t9 t10 t11 t12 t13 t14 t15 t16) W):wpOp Pz.prog ops14 Q 0 K' (ab pb t3 t7 t8 t9 t10 t11 t12 t13 t14 t15 t16) W :=
  wpOp_val (o := { dst := some 7, op := .move (.tmp 0), type := 26, pos := "keeps.go:104", after := #[], guard := none }) (v := (pW pb)) (w' := W) (by kernel_rfl) rfl (by simp only [ab]; go_simp) h
theorem op14_1 (h:K' (ab pb t3 (pW pb) (pW pb) t9 t10 t11 t12 t13 t14 t15 t16) W):wpOp Pz.prog ops14 Q 1 K' (ab pb t3 (pW pb) t8 t9 t10 t11 t12 t13 t14 t15 t16) W :=
  wpOp_val (o := { dst := some 8, op := .nilCheck (.tmp 7), type := 0, pos := "keeps.go:104", after := #[{ on := 0, ground := .data }], guard := none }) (v := (pW pb)) (w' := W) (by kernel_rfl) rfl (by simp only [ab]; go_simp) h
theorem op14_2 (h:K' (ab pb t3 t7 (pW pb) (pW pb) t10 t11 t12 t13 t14 t15 t16) W):wpOp Pz.prog ops14 Q 2 K' (ab pb t3 t7 (pW pb) t9 t10 t11 t12 t13 t14 t15 t16) W :=
  wpOp_val (o := { dst := some 9, op := .fieldAddr 37 (.tmp 8) 0, type := 0, pos := "keeps.go:104", after := #[{ on := 1, ground := .data }], guard := none }) (v := (pW pb)) (w' := W) (by kernel_rfl) rfl (by simp only [ab]; go_simp) h
theorem op14_3 (h0:W.cell? ⟨pb,0,none⟩=some (pW hbk))(h:K' (ab pb t3 t7 t8 (pW pb) (pW hbk) t11 t12 t13 t14 t15 t16) W):wpOp Pz.prog ops14 Q 3 K' (ab pb t3 t7 t8 (pW pb) t10 t11 t12 t13 t14 t15 t16) W :=
  wpOp_val (o := { dst := some 10, op := .load 33 (.tmp 9), type := 33, pos := "keeps.go:104", after := #[{ on := 2, ground := .data }], guard := none }) (v := (pW hbk)) (w' := W) (by kernel_rfl) rfl (by simp only [ab]; go_simp) h
theorem op14_4 (h:K' (ab pb t3 t7 t8 t9 t10 (pW pb) t12 t13 t14 t15 t16) W):wpOp Pz.prog ops14 Q 4 K' (ab pb t3 t7 t8 t9 t10 t11 t12 t13 t14 t15 t16) W :=
  wpOp_val (o := { dst := some 11, op := .move (.tmp 0), type := 26, pos := "keeps.go:104", after := #[], guard := none }) (v := (pW pb)) (w' := W) (by kernel_rfl) rfl (by simp only [ab]; go_simp) h
theorem op14_5 (h:K' (ab pb t3 t7 t8 t9 t10 (pW pb) (pW pb) t13 t14 t15 t16) W):wpOp Pz.prog ops14 Q 5 K' (ab pb t3 t7 t8 t9 t10 (pW pb) t12 t13 t14 t15 t16) W :=
  wpOp_val (o := { dst := some 12, op := .nilCheck (.tmp 11), type := 0, pos := "keeps.go:104", after := #[{ on := 4, ground := .data }], guard := none }) (v := (pW pb)) (w' := W) (by kernel_rfl) rfl (by simp only [ab]; go_simp) h
theorem op14_6 (h:K' (ab pb t3 t7 t8 t9 t10 t11 (pW pb) (.pointer (some ⟨pb,1,none⟩)) t14 t15 t16) W):wpOp Pz.prog ops14 Q 6 K' (ab pb t3 t7 t8 t9 t10 t11 (pW pb) t13 t14 t15 t16) W :=
  wpOp_val (o := { dst := some 13, op := .fieldAddr 37 (.tmp 12) 1, type := 0, pos := "keeps.go:104", after := #[{ on := 5, ground := .data }], guard := none }) (v := (.pointer (some ⟨pb, 1, none⟩))) (w' := W) (by kernel_rfl) rfl (by simp only [ab]; go_simp) h
theorem op14_7 (h1:W.cell? ⟨pb,1,none⟩=some (.int .i64 mm))(h:K' (ab pb t3 t7 t8 t9 t10 t11 t12 (.pointer (some ⟨pb,1,none⟩)) (.int .i64 mm) t15 t16) W):wpOp Pz.prog ops14 Q 7 K' (ab pb t3 t7 t8 t9 t10 t11 t12 (.pointer (some ⟨pb,1,none⟩)) t14 t15 t16) W :=
  wpOp_val (o := { dst := some 14, op := .load 3 (.tmp 13), type := 3, pos := "keeps.go:104", after := #[{ on := 6, ground := .data }], guard := none }) (v := (.int .i64 mm)) (w' := W) (by kernel_rfl) rfl (by simp only [ab]; go_simp) h
theorem op14_8 (h:K' (ab pb t3 t7 t8 t9 t10 t11 t12 t13 (.int .i64 mm) (.slice (some ⟨W.heap.size,0,none⟩) 1 1) t16) (W.alloc (.cells #[.int .i64 mm] 3))):wpOp Pz.prog ops14 Q 8 K' (ab pb t3 t7 t8 t9 t10 t11 t12 t13 (.int .i64 mm) t15 t16) W :=
  wpOp_val (o := { dst := some 15, op := .buildSlice 25 1 #[(0, .tmp 14)], type := 25, pos := "keeps.go:104", after := #[{ on := 7, ground := .data }], guard := none }) (v := (.slice (some ⟨W.heap.size, 0, none⟩) 1 1)) (w' := (W.alloc (.cells #[.int .i64 mm] 3))) (by kernel_rfl) rfl (by simp only [ab]; go_simp) h
end
section
variable {mm:Int} {w:World} {pb hbk:Nat}
theorem up14 (h0:w.cell? ⟨pb,0,none⟩=some (pW hbk))(h1:w.cell? ⟨pb,1,none⟩=some (.int .i64 mm))(t:Nat→Question→Nat)(d:Nat) :
  wpUp Pz.prog .any ops14 (fun a' w'=>a'=ab pb undef (pW pb) (pW pb) (pW pb) (pW hbk) (pW pb) (pW pb) (.pointer (some ⟨pb,1,none⟩)) (.int .i64 mm) (.slice (some ⟨w.heap.size,0,none⟩) 1 1) undef∧like w' (w.alloc (.cells #[.int .i64 mm] 3))) 9 (Array.replicate 11 false) (ab pb undef undef undef undef undef undef undef undef undef undef undef) (re w t d):=by
 have h0':(re w t d).cell? ⟨pb,0,none⟩=some (pW hbk):=h0
 have h1':(re w t d).cell? ⟨pb,1,none⟩=some (.int .i64 mm):=h1
 have e0:∀ (W:World),W.cell? ⟨pb,0,none⟩=some (pW hbk)→∀ o,(W.alloc o).cell? ⟨pb,0,none⟩=some (pW hbk):=fun W h o=>(World.cell?_alloc_past _ _ _ (cell_lt h)).trans h
 have u45:wpUp Pz.prog .any ops14 (fun a' w'=>a'=ab pb undef (pW pb) (pW pb) (pW pb) (pW hbk) (pW pb) (pW pb) (.pointer (some ⟨pb,1,none⟩)) (.int .i64 mm) (.slice (some ⟨w.heap.size,0,none⟩) 1 1) undef∧like w' (w.alloc (.cells #[.int .i64 mm] 3))) 0 #[true,true,true,true,true,true,true,true,true,false,false] (ab pb undef (pW pb) (pW pb) (pW pb) (pW hbk) (pW pb) (pW pb) (.pointer (some ⟨pb,1,none⟩)) (.int .i64 mm) (.slice (some ⟨w.heap.size,0,none⟩) 1 1) undef) ((re w t d).alloc (.cells #[.int .i64 mm] 3)):=⟨rfl,rfl,rfl,rfl⟩
 have u44:wpUp Pz.prog .any ops14 (fun a' w'=>a'=ab pb undef (pW pb) (pW pb) (pW pb) (pW hbk) (pW pb) (pW pb) (.pointer (some ⟨pb,1,none⟩)) (.int .i64 mm) (.slice (some ⟨w.heap.size,0,none⟩) 1 1) undef∧like w' (w.alloc (.cells #[.int .i64 mm] 3))) 1 #[true,true,true,true,true,true,true,true,false,false,false] (ab pb undef (pW pb) (pW pb) (pW pb) (pW hbk) (pW pb) (pW pb) (.pointer (some ⟨pb,1,none⟩)) (.int .i64 mm) undef undef) (re w t d):=up1 (by kernel_rfl) (op14_8 u45)
 have u43:wpUp Pz.prog .any ops14 (fun a' w'=>a'=ab pb undef (pW pb) (pW pb) (pW pb) (pW hbk) (pW pb) (pW pb) (.pointer (some ⟨pb,1,none⟩)) (.int .i64 mm) (.slice (some ⟨w.heap.size,0,none⟩) 1 1) undef∧like w' (w.alloc (.cells #[.int .i64 mm] 3))) 2 #[true,true,true,true,true,true,true,false,false,false,false] (ab pb undef (pW pb) (pW pb) (pW pb) (pW hbk) (pW pb) (pW pb) (.pointer (some ⟨pb,1,none⟩)) undef undef undef) (re w t d):=up1 (by kernel_rfl) (op14_7 h1' u44)
 have u42:wpUp Pz.prog .any ops14 (fun a' w'=>a'=ab pb undef (pW pb) (pW pb) (pW pb) (pW hbk) (pW pb) (pW pb) (.pointer (some ⟨pb,1,none⟩)) (.int .i64 mm) (.slice (some ⟨w.heap.size,0,none⟩) 1 1) undef∧like w' (w.alloc (.cells #[.int .i64 mm] 3))) 3 #[true,true,true,true,true,true,false,false,false,false,false] (ab pb undef (pW pb) (pW pb) (pW pb) (pW hbk) (pW pb) (pW pb) undef undef undef undef) (re w t d):=up1 (by kernel_rfl) (op14_6 u43)
 have u41:wpUp Pz.prog .any ops14 (fun a' w'=>a'=ab pb undef (pW pb) (pW pb) (pW pb) (pW hbk) (pW pb) (pW pb) (.pointer (some ⟨pb,1,none⟩)) (.int .i64 mm) (.slice (some ⟨w.heap.size,0,none⟩) 1 1) undef∧like w' (w.alloc (.cells #[.int .i64 mm] 3))) 4 #[true,true,true,true,true,false,false,false,false,false,false] (ab pb undef (pW pb) (pW pb) (pW pb) (pW hbk) (pW pb) undef undef undef undef undef) (re w t d):=up1 (by kernel_rfl) (op14_5 u42)
 have u40:wpUp Pz.prog .any ops14 (fun a' w'=>a'=ab pb undef (pW pb) (pW pb) (pW pb) (pW hbk) (pW pb) (pW pb) (.pointer (some ⟨pb,1,none⟩)) (.int .i64 mm) (.slice (some ⟨w.heap.size,0,none⟩) 1 1) undef∧like w' (w.alloc (.cells #[.int .i64 mm] 3))) 5 #[true,true,true,true,false,false,false,false,false,false,false] (ab pb undef (pW pb) (pW pb) (pW pb) (pW hbk) undef undef undef undef undef undef) (re w t d):=up1 (by kernel_rfl) (op14_4 u41)
 have u35:wpUp Pz.prog .any ops14 (fun a' w'=>a'=ab pb undef (pW pb) (pW pb) (pW pb) (pW hbk) (pW pb) (pW pb) (.pointer (some ⟨pb,1,none⟩)) (.int .i64 mm) (.slice (some ⟨w.heap.size,0,none⟩) 1 1) undef∧like w' (w.alloc (.cells #[.int .i64 mm] 3))) 1 #[true,true,true,false,true,true,true,true,true,false,false] (ab pb undef (pW pb) (pW pb) (pW pb) undef (pW pb) (pW pb) (.pointer (some ⟨pb,1,none⟩)) (.int .i64 mm) (.slice (some ⟨w.heap.size,0,none⟩) 1 1) undef) ((re w t d).alloc (.cells #[.int .i64 mm] 3)):=up1 (by kernel_rfl) (op14_3 (e0 _ h0' _) u45)
 have u34:wpUp Pz.prog .any ops14 (fun a' w'=>a'=ab pb undef (pW pb) (pW pb) (pW pb) (pW hbk) (pW pb) (pW pb) (.pointer (some ⟨pb,1,none⟩)) (.int .i64 mm) (.slice (some ⟨w.heap.size,0,none⟩) 1 1) undef∧like w' (w.alloc (.cells #[.int .i64 mm] 3))) 2 #[true,true,true,false,true,true,true,true,false,false,false] (ab pb undef (pW pb) (pW pb) (pW pb) undef (pW pb) (pW pb) (.pointer (some ⟨pb,1,none⟩)) (.int .i64 mm) undef undef) (re w t d):=up2 (by kernel_rfl) (op14_3 h0' u44) (op14_8 u35)
 have u33:wpUp Pz.prog .any ops14 (fun a' w'=>a'=ab pb undef (pW pb) (pW pb) (pW pb) (pW hbk) (pW pb) (pW pb) (.pointer (some ⟨pb,1,none⟩)) (.int .i64 mm) (.slice (some ⟨w.heap.size,0,none⟩) 1 1) undef∧like w' (w.alloc (.cells #[.int .i64 mm] 3))) 3 #[true,true,true,false,true,true,true,false,false,false,false] (ab pb undef (pW pb) (pW pb) (pW pb) undef (pW pb) (pW pb) (.pointer (some ⟨pb,1,none⟩)) undef undef undef) (re w t d):=up2 (by kernel_rfl) (op14_3 h0' u43) (op14_7 h1' u34)
 have u32:wpUp Pz.prog .any ops14 (fun a' w'=>a'=ab pb undef (pW pb) (pW pb) (pW pb) (pW hbk) (pW pb) (pW pb) (.pointer (some ⟨pb,1,none⟩)) (.int .i64 mm) (.slice (some ⟨w.heap.size,0,none⟩) 1 1) undef∧like w' (w.alloc (.cells #[.int .i64 mm] 3))) 4 #[true,true,true,false,true,true,false,false,false,false,false] (ab pb undef (pW pb) (pW pb) (pW pb) undef (pW pb) (pW pb) undef undef undef undef) (re w t d):=up2 (by kernel_rfl) (op14_3 h0' u42) (op14_6 u33)
 have u31:wpUp Pz.prog .any ops14 (fun a' w'=>a'=ab pb undef (pW pb) (pW pb) (pW pb) (pW hbk) (pW pb) (pW pb) (.pointer (some ⟨pb,1,none⟩)) (.int .i64 mm) (.slice (some ⟨w.heap.size,0,none⟩) 1 1) undef∧like w' (w.alloc (.cells #[.int .i64 mm] 3))) 5 #[true,true,true,false,true,false,false,false,false,false,false] (ab pb undef (pW pb) (pW pb) (pW pb) undef (pW pb) undef undef undef undef undef) (re w t d):=up2 (by kernel_rfl) (op14_3 h0' u41) (op14_5 u32)
 have u30:wpUp Pz.prog .any ops14 (fun a' w'=>a'=ab pb undef (pW pb) (pW pb) (pW pb) (pW hbk) (pW pb) (pW pb) (.pointer (some ⟨pb,1,none⟩)) (.int .i64 mm) (.slice (some ⟨w.heap.size,0,none⟩) 1 1) undef∧like w' (w.alloc (.cells #[.int .i64 mm] 3))) 6 #[true,true,true,false,false,false,false,false,false,false,false] (ab pb undef (pW pb) (pW pb) (pW pb) undef undef undef undef undef undef undef) (re w t d):=up2 (by kernel_rfl) (op14_3 h0' u40) (op14_4 u31)
 have u25:wpUp Pz.prog .any ops14 (fun a' w'=>a'=ab pb undef (pW pb) (pW pb) (pW pb) (pW hbk) (pW pb) (pW pb) (.pointer (some ⟨pb,1,none⟩)) (.int .i64 mm) (.slice (some ⟨w.heap.size,0,none⟩) 1 1) undef∧like w' (w.alloc (.cells #[.int .i64 mm] 3))) 2 #[true,true,false,false,true,true,true,true,true,false,false] (ab pb undef (pW pb) (pW pb) undef undef (pW pb) (pW pb) (.pointer (some ⟨pb,1,none⟩)) (.int .i64 mm) (.slice (some ⟨w.heap.size,0,none⟩) 1 1) undef) ((re w t d).alloc (.cells #[.int .i64 mm] 3)):=up1 (by kernel_rfl) (op14_2 u35)
 have u24:wpUp Pz.prog .any ops14 (fun a' w'=>a'=ab pb undef (pW pb) (pW pb) (pW pb) (pW hbk) (pW pb) (pW pb) (.pointer (some ⟨pb,1,none⟩)) (.int .i64 mm) (.slice (some ⟨w.heap.size,0,none⟩) 1 1) undef∧like w' (w.alloc (.cells #[.int .i64 mm] 3))) 3 #[true,true,false,false,true,true,true,true,false,false,false] (ab pb undef (pW pb) (pW pb) undef undef (pW pb) (pW pb) (.pointer (some ⟨pb,1,none⟩)) (.int .i64 mm) undef undef) (re w t d):=up2 (by kernel_rfl) (op14_2 u34) (op14_8 u25)
 have u23:wpUp Pz.prog .any ops14 (fun a' w'=>a'=ab pb undef (pW pb) (pW pb) (pW pb) (pW hbk) (pW pb) (pW pb) (.pointer (some ⟨pb,1,none⟩)) (.int .i64 mm) (.slice (some ⟨w.heap.size,0,none⟩) 1 1) undef∧like w' (w.alloc (.cells #[.int .i64 mm] 3))) 4 #[true,true,false,false,true,true,true,false,false,false,false] (ab pb undef (pW pb) (pW pb) undef undef (pW pb) (pW pb) (.pointer (some ⟨pb,1,none⟩)) undef undef undef) (re w t d):=up2 (by kernel_rfl) (op14_2 u33) (op14_7 h1' u24)
 have u22:wpUp Pz.prog .any ops14 (fun a' w'=>a'=ab pb undef (pW pb) (pW pb) (pW pb) (pW hbk) (pW pb) (pW pb) (.pointer (some ⟨pb,1,none⟩)) (.int .i64 mm) (.slice (some ⟨w.heap.size,0,none⟩) 1 1) undef∧like w' (w.alloc (.cells #[.int .i64 mm] 3))) 5 #[true,true,false,false,true,true,false,false,false,false,false] (ab pb undef (pW pb) (pW pb) undef undef (pW pb) (pW pb) undef undef undef undef) (re w t d):=up2 (by kernel_rfl) (op14_2 u32) (op14_6 u23)
 have u21:wpUp Pz.prog .any ops14 (fun a' w'=>a'=ab pb undef (pW pb) (pW pb) (pW pb) (pW hbk) (pW pb) (pW pb) (.pointer (some ⟨pb,1,none⟩)) (.int .i64 mm) (.slice (some ⟨w.heap.size,0,none⟩) 1 1) undef∧like w' (w.alloc (.cells #[.int .i64 mm] 3))) 6 #[true,true,false,false,true,false,false,false,false,false,false] (ab pb undef (pW pb) (pW pb) undef undef (pW pb) undef undef undef undef undef) (re w t d):=up2 (by kernel_rfl) (op14_2 u31) (op14_5 u22)
 have u20:wpUp Pz.prog .any ops14 (fun a' w'=>a'=ab pb undef (pW pb) (pW pb) (pW pb) (pW hbk) (pW pb) (pW pb) (.pointer (some ⟨pb,1,none⟩)) (.int .i64 mm) (.slice (some ⟨w.heap.size,0,none⟩) 1 1) undef∧like w' (w.alloc (.cells #[.int .i64 mm] 3))) 7 #[true,true,false,false,false,false,false,false,false,false,false] (ab pb undef (pW pb) (pW pb) undef undef undef undef undef undef undef undef) (re w t d):=up2 (by kernel_rfl) (op14_2 u30) (op14_4 u21)
 have u15:wpUp Pz.prog .any ops14 (fun a' w'=>a'=ab pb undef (pW pb) (pW pb) (pW pb) (pW hbk) (pW pb) (pW pb) (.pointer (some ⟨pb,1,none⟩)) (.int .i64 mm) (.slice (some ⟨w.heap.size,0,none⟩) 1 1) undef∧like w' (w.alloc (.cells #[.int .i64 mm] 3))) 3 #[true,false,false,false,true,true,true,true,true,false,false] (ab pb undef (pW pb) undef undef undef (pW pb) (pW pb) (.pointer (some ⟨pb,1,none⟩)) (.int .i64 mm) (.slice (some ⟨w.heap.size,0,none⟩) 1 1) undef) ((re w t d).alloc (.cells #[.int .i64 mm] 3)):=up1 (by kernel_rfl) (op14_1 u25)
 have u14:wpUp Pz.prog .any ops14 (fun a' w'=>a'=ab pb undef (pW pb) (pW pb) (pW pb) (pW hbk) (pW pb) (pW pb) (.pointer (some ⟨pb,1,none⟩)) (.int .i64 mm) (.slice (some ⟨w.heap.size,0,none⟩) 1 1) undef∧like w' (w.alloc (.cells #[.int .i64 mm] 3))) 4 #[true,false,false,false,true,true,true,true,false,false,false] (ab pb undef (pW pb) undef undef undef (pW pb) (pW pb) (.pointer (some ⟨pb,1,none⟩)) (.int .i64 mm) undef undef) (re w t d):=up2 (by kernel_rfl) (op14_1 u24) (op14_8 u15)
 have u13:wpUp Pz.prog .any ops14 (fun a' w'=>a'=ab pb undef (pW pb) (pW pb) (pW pb) (pW hbk) (pW pb) (pW pb) (.pointer (some ⟨pb,1,none⟩)) (.int .i64 mm) (.slice (some ⟨w.heap.size,0,none⟩) 1 1) undef∧like w' (w.alloc (.cells #[.int .i64 mm] 3))) 5 #[true,false,false,false,true,true,true,false,false,false,false] (ab pb undef (pW pb) undef undef undef (pW pb) (pW pb) (.pointer (some ⟨pb,1,none⟩)) undef undef undef) (re w t d):=up2 (by kernel_rfl) (op14_1 u23) (op14_7 h1' u14)
 have u12:wpUp Pz.prog .any ops14 (fun a' w'=>a'=ab pb undef (pW pb) (pW pb) (pW pb) (pW hbk) (pW pb) (pW pb) (.pointer (some ⟨pb,1,none⟩)) (.int .i64 mm) (.slice (some ⟨w.heap.size,0,none⟩) 1 1) undef∧like w' (w.alloc (.cells #[.int .i64 mm] 3))) 6 #[true,false,false,false,true,true,false,false,false,false,false] (ab pb undef (pW pb) undef undef undef (pW pb) (pW pb) undef undef undef undef) (re w t d):=up2 (by kernel_rfl) (op14_1 u22) (op14_6 u13)
 have u11:wpUp Pz.prog .any ops14 (fun a' w'=>a'=ab pb undef (pW pb) (pW pb) (pW pb) (pW hbk) (pW pb) (pW pb) (.pointer (some ⟨pb,1,none⟩)) (.int .i64 mm) (.slice (some ⟨w.heap.size,0,none⟩) 1 1) undef∧like w' (w.alloc (.cells #[.int .i64 mm] 3))) 7 #[true,false,false,false,true,false,false,false,false,false,false] (ab pb undef (pW pb) undef undef undef (pW pb) undef undef undef undef undef) (re w t d):=up2 (by kernel_rfl) (op14_1 u21) (op14_5 u12)
 have u10:wpUp Pz.prog .any ops14 (fun a' w'=>a'=ab pb undef (pW pb) (pW pb) (pW pb) (pW hbk) (pW pb) (pW pb) (.pointer (some ⟨pb,1,none⟩)) (.int .i64 mm) (.slice (some ⟨w.heap.size,0,none⟩) 1 1) undef∧like w' (w.alloc (.cells #[.int .i64 mm] 3))) 8 #[true,false,false,false,false,false,false,false,false,false,false] (ab pb undef (pW pb) undef undef undef undef undef undef undef undef undef) (re w t d):=up2 (by kernel_rfl) (op14_1 u20) (op14_4 u11)
 have u05:wpUp Pz.prog .any ops14 (fun a' w'=>a'=ab pb undef (pW pb) (pW pb) (pW pb) (pW hbk) (pW pb) (pW pb) (.pointer (some ⟨pb,1,none⟩)) (.int .i64 mm) (.slice (some ⟨w.heap.size,0,none⟩) 1 1) undef∧like w' (w.alloc (.cells #[.int .i64 mm] 3))) 4 #[false,false,false,false,true,true,true,true,true,false,false] (ab pb undef undef undef undef undef (pW pb) (pW pb) (.pointer (some ⟨pb,1,none⟩)) (.int .i64 mm) (.slice (some ⟨w.heap.size,0,none⟩) 1 1) undef) ((re w t d).alloc (.cells #[.int .i64 mm] 3)):=up1 (by kernel_rfl) (op14_0 u15)
 have u04:wpUp Pz.prog .any ops14 (fun a' w'=>a'=ab pb undef (pW pb) (pW pb) (pW pb) (pW hbk) (pW pb) (pW pb) (.pointer (some ⟨pb,1,none⟩)) (.int .i64 mm) (.slice (some ⟨w.heap.size,0,none⟩) 1 1) undef∧like w' (w.alloc (.cells #[.int .i64 mm] 3))) 5 #[false,false,false,false,true,true,true,true,false,false,false] (ab pb undef undef undef undef undef (pW pb) (pW pb) (.pointer (some ⟨pb,1,none⟩)) (.int .i64 mm) undef undef) (re w t d):=up2 (by kernel_rfl) (op14_0 u14) (op14_8 u05)
 have u03:wpUp Pz.prog .any ops14 (fun a' w'=>a'=ab pb undef (pW pb) (pW pb) (pW pb) (pW hbk) (pW pb) (pW pb) (.pointer (some ⟨pb,1,none⟩)) (.int .i64 mm) (.slice (some ⟨w.heap.size,0,none⟩) 1 1) undef∧like w' (w.alloc (.cells #[.int .i64 mm] 3))) 6 #[false,false,false,false,true,true,true,false,false,false,false] (ab pb undef undef undef undef undef (pW pb) (pW pb) (.pointer (some ⟨pb,1,none⟩)) undef undef undef) (re w t d):=up2 (by kernel_rfl) (op14_0 u13) (op14_7 h1' u04)
 have u02:wpUp Pz.prog .any ops14 (fun a' w'=>a'=ab pb undef (pW pb) (pW pb) (pW pb) (pW hbk) (pW pb) (pW pb) (.pointer (some ⟨pb,1,none⟩)) (.int .i64 mm) (.slice (some ⟨w.heap.size,0,none⟩) 1 1) undef∧like w' (w.alloc (.cells #[.int .i64 mm] 3))) 7 #[false,false,false,false,true,true,false,false,false,false,false] (ab pb undef undef undef undef undef (pW pb) (pW pb) undef undef undef undef) (re w t d):=up2 (by kernel_rfl) (op14_0 u12) (op14_6 u03)
 have u01:wpUp Pz.prog .any ops14 (fun a' w'=>a'=ab pb undef (pW pb) (pW pb) (pW pb) (pW hbk) (pW pb) (pW pb) (.pointer (some ⟨pb,1,none⟩)) (.int .i64 mm) (.slice (some ⟨w.heap.size,0,none⟩) 1 1) undef∧like w' (w.alloc (.cells #[.int .i64 mm] 3))) 8 #[false,false,false,false,true,false,false,false,false,false,false] (ab pb undef undef undef undef undef (pW pb) undef undef undef undef undef) (re w t d):=up2 (by kernel_rfl) (op14_0 u11) (op14_5 u02)
 have u00:wpUp Pz.prog .any ops14 (fun a' w'=>a'=ab pb undef (pW pb) (pW pb) (pW pb) (pW hbk) (pW pb) (pW pb) (.pointer (some ⟨pb,1,none⟩)) (.int .i64 mm) (.slice (some ⟨w.heap.size,0,none⟩) 1 1) undef∧like w' (w.alloc (.cells #[.int .i64 mm] 3))) 9 #[false,false,false,false,false,false,false,false,false,false,false] (ab pb undef undef undef undef undef undef undef undef undef undef undef) (re w t d):=up2 (by kernel_rfl) (op14_0 u10) (op14_4 u01)
 exact u00
end
end Go.Proofs.YtdianedehhecoaaGreatDoor.Co
/- Play.tick, beside leavers. -/
namespace Go.Proofs.YtdianedehhecoaaGreatDoor.Co
variable [Loops]
open Go.Conc (G)
open Go.RowKit
theorem f14_fn:PP.fg[14]? = some Tryz.f14:=by kernel_rfl
theorem f14_same:PP.fs[14]? = PP.fg[14]?:=by kernel_rfl
theorem f14_body:Tryz.f14.body=some c14:=by kernel_rfl
theorem f34_fn':PP.fg[34]? = some Tryz.f34:=by kernel_rfl
theorem rest14_eq:rest14=after 2 kTick:=by kernel_rfl
theorem a14 (pb:Nat):({ tmps:=#[pW pb]++Array.replicate (Tryz.f14.ntmps-(#[pW pb]:Array Value).size) undef,defers:=[] }:Act)=⟨#[pW pb,undef,undef,undef,undef,undef,undef,undef,undef,undef,undef,undef,undef,undef,undef,undef,undef,undef,undef,undef,undef,undef,undef,undef,undef,undef,undef,undef,undef,undef,undef,undef,undef,undef,undef,undef,undef,undef,undef,undef,undef,undef,undef,undef,undef,undef,undef,undef,undef,undef,undef,undef,undef,undef,undef,undef,undef,undef,undef,undef,undef,undef,undef,undef,undef,undef,undef,undef,undef,undef],[]⟩:=by kernel_rfl
theorem w14_0 {pb:Nat}{w:World}(t:Nat→Question→Nat)(d:Nat):(sq1 c14).wp PP.s (fun e a' w'=>e=.normal∧a'=ab pb undef undef undef undef undef undef undef undef undef undef undef∧like w' w) ⟨#[pW pb,undef,undef,undef,undef,undef,undef,undef,undef,undef,undef,undef,undef,undef,undef,undef,undef,undef,undef,undef,undef,undef,undef,undef,undef,undef,undef,undef,undef,undef,undef,undef,undef,undef,undef,undef,undef,undef,undef,undef,undef,undef,undef,undef,undef,undef,undef,undef,undef,undef,undef,undef,undef,undef,undef,undef,undef,undef,undef,undef,undef,undef,undef,undef,undef,undef,undef,undef,undef,undef],[]⟩ (re w t d):=by
 show Code.wp Pz.prog (sq1 c14) _ _ _
 simp only[sq1,c14,Tryz.f14,Option.getD,ab]
 go_wp2
 exact ⟨rfl,rfl,rfl⟩
theorem o14_9 : ops14[9]? = some { dst := some 16, op := .call { callee := .value (.func 34), args := #[.tmp 10, .tmp 15], argTypes := #[33, 25] }, type := 38, pos := "keeps.go:104", after := #[{ on := 3, ground := .data }, { on := 8, ground := .data }], guard := none } := by kernel_rfl
theorem o14_10:∃ o,ops14[10]? = some o∧o.op=.assign (.tmp 16)∧o.dst=some 3∧o.guard=none:=⟨(ops14[10]?).getD default,by kernel_rfl,by kernel_rfl,by kernel_rfl,by kernel_rfl⟩
theorem ready14_9:Region.ready .any ops14 #[true,true,true,true,true,true,true,true,true,false,false]=[9]:=by kernel_rfl
theorem ready14_10:Region.ready .any ops14 ((#[true,true,true,true,true,true,true,true,true,false,false]:Array Bool).setIfInBounds 9 true)=[10]:=by kernel_rfl
theorem ends14:endsUp .any ops14 #[true,true,true,true,true,true,true,true,true,false,false] 9 (Array.replicate ops14.size false)=true:=by kernel_rfl
theorem size14:ops14.size=9+2:=by kernel_rfl
theorem args14 {pb:Nat}{t3 t7 t8 t9 t10 t11 t12 t13 t14 t15 t16:Value}:(#[Operand.tmp 10,Operand.tmp 15].map (ab pb t3 t7 t8 t9 t10 t11 t12 t13 t14 t15 t16).eval)=#[t10,t15]:=by kernel_rfl
theorem put14 {pb:Nat}{t3 t7 t8 t9 t10 t11 t12 t13 t14 t15 t16 v:Value}:(ab pb t3 t7 t8 t9 t10 t11 t12 t13 t14 t15 t16).put (some 16) v=ab pb t3 t7 t8 t9 t10 t11 t12 t13 t14 t15 v:=by kernel_rfl
theorem put14' {pb:Nat}{t3 t7 t8 t9 t10 t11 t12 t13 t14 t15 t16 v:Value}:(ab pb t3 t7 t8 t9 t10 t11 t12 t13 t14 t15 t16).put (some 3) v=ab pb v t7 t8 t9 t10 t11 t12 t13 t14 t15 t16:=by kernel_rfl
theorem eval14 {pb:Nat}{t3 t7 t8 t9 t10 t11 t12 t13 t14 t15 t16:Value}:(ab pb t3 t7 t8 t9 t10 t11 t12 t13 t14 t15 t16).eval (.tmp 16)=t16:=by kernel_rfl
theorem mixed14:PP.g.follows .mixedOrders=true:=by kernel_rfl
section
variable {W:World} {D:Nat→Prop} {Q:PSt} {sd:Int} {P pb:Nat} {T:List (List RC)}
theorem PA.on {w':World}(h:PA W D pb sd P T Q)(hb:∀ k,D k→k<W.heap.size→w'.heap[k]? = W.heap[k]?):PA w' D pb sd P T Q:=⟨h.1.elim fun f x=>⟨_,x.on hb⟩,h.2⟩
theorem PA.own {D':Nat→Prop}(h:PA W D pb sd P T Q)(hD:∀ k,D k→k<W.heap.size→D' k):PA W D' pb sd P T Q:=⟨h.1.elim fun f x=>⟨f,x.own hD⟩,h.2⟩
def TickP (W:World)(D:Nat→Prop)(pb:Nat)(sd:Int)(P:Nat)(Q:PSt)(T:List (List RC))(w':World):Prop :=
 Stays D W w'∧∃ Q' T',PA w' (Nw D W.heap.size) pb sd P T' Q'∧T'.length=(if Q.over=true∨T.length=1000 then T.length else T.length+1)∧Q'.vw=Q.vw.tick
theorem tick_cb2 (h:PA W D pb sd P T Q)(hd:W.cell? ⟨4,15,none⟩=some (.int .u8 4))(hdl:¬ D 4)(hD:∀ k,D k→k<W.heap.size) :
  CB PP 14 #[pW pb] W fun v w'=>v=.bool true∧TickP W D pb sd P Q T w':=by
 obtain ⟨⟨f,hP⟩,hH,hpb,hsi⟩:=h
 subst hpb
 have hp:=hP.play
 have h0:W.cell? ⟨Q.pb,0,none⟩=some (pW Q.hbk):=hp.cell rfl
 have h1:W.cell? ⟨Q.pb,1,none⟩=some (.int .i64 Q.m):=hp.cell rfl
 have hpl:=hp.lt
 refine CB.of_base PP_rdy f14_fn f14_same f14_body fun cs c hS=>?_
 rw[a14]at hS
 refine (hS.seq c14_eq).trans fun c1 hS=>?_
 refine (lone_piece PP_rdy w14_0 hS).trans fun c2 hS=>?_
 refine (hS.seq rfl).trans fun c3 hS=>?_
 have HW:WB PP (.region 1 ops14 true) (fun e a' w'=>e=.normal∧a'=ab Q.pb (.int .i64 0) (pW Q.pb) (pW Q.pb) (pW Q.pb) (pW Q.hbk) (pW Q.pb) (pW Q.pb) (.pointer (some ⟨Q.pb,1,none⟩)) (.int .i64 Q.m) (.slice (some ⟨W.heap.size,0,none⟩) 1 1) (.int .i64 0)∧TickH W D Q T w') (ab Q.pb undef undef undef undef undef undef undef undef undef undef undef) W:=by
  refine WB.draw_two PP_rdy mixed14 size14 ends14 ready14_9 ready14_10 (up14 h0 h1) ?_
  rintro a' w' ⟨t,d,rfl,hl⟩
  have hl:like w' (W.alloc (.cells #[.int .i64 Q.m] 3)):=hl
  have hblk:∀ j:Nat,w'.heap[j]? = (W.alloc (.cells #[.int .i64 Q.m] 3)).heap[j]?:=fun j=>by rw[hl.1]
  have hold:∀ j,j<W.heap.size→w'.heap[j]? = W.heap[j]?:=fun j hj=>(hblk j).trans (Below.heap_alloc W _ j hj)
  have hsz:w'.heap.size=W.heap.size+1:=by rw[hl.1];simp
  have hs:PG w' D Q _:=hP.on fun k _ hk=>hold k hk
  have hn:w'.cell? ⟨W.heap.size,0,none⟩=some (.int .i64 Q.m):=(World.cell?_of_block (w:=W.alloc (.cells #[.int .i64 Q.m] 3)) (hblk _)).trans ((BlkAt.new W [.int .i64 Q.m] 3).cell rfl)
  refine WR.call o14_9 rfl rfl f34_fn' (by kernel_rfl) (by kernel_rfl) ?_
  rw[args14]
  refine (tick_pg hs hH hn ((World.cell?_of_block (w:=W) (hold _ (cell_lt hd))).trans hd) hdl).mono ?_
  rintro v w2 ⟨rfl,hTH⟩
  obtain ⟨o,ho,hop,hds,hgd⟩:=o14_10
  rw[put14]
  refine WR.pre (pre:=[10]) (rest:=[]) (K:=fun a3 w3=>a3=ab Q.pb (.int .i64 0) (pW Q.pb) (pW Q.pb) (pW Q.pb) (pW Q.hbk) (pW Q.pb) (pW Q.pb) (.pointer (some ⟨Q.pb,1,none⟩)) (.int .i64 Q.m) (.slice (some ⟨W.heap.size,0,none⟩) 1 1) (.int .i64 0)∧like w3 w2) PP_rdy (fun t d=>?_) ?_
  ·refine wpOps_val (v:=.int .i64 0) (w':=re w2 t d) ho hgd ?_ ?_
   ·unfold execOp
    rw[hop]
    simp only[eval14]
    rfl
   ·rw[hds,put14']
    exact ⟨rfl,rfl,rfl,rfl,rfl⟩
  ·rintro a3 w3 ⟨t,d,rfl,hl3⟩
   have hl3:like w3 w2:=hl3
   refine WR.nil ⟨rfl,rfl,?_⟩
   obtain ⟨hst,hr⟩:=hTH
   have hW:Stays D W w3:=⟨hl3.2.1.trans (hst.os.trans hl.2.1),hl3.2.2.trans (hst.output.trans hl.2.2),by rw[hl3.1];have:=hst.size;omega,fun j hj hn=>by rw[hl3.1];exact (hst.block j (by omega) hn).trans (hold j hj)⟩
   have up:∀ k,Nw D w'.heap.size k→Nw D W.heap.size k:=fun k hk=>hk.imp id fun x=>by omega
   rcases hr with ⟨a1,f1,a2⟩|⟨a1,a2,M',f1,a3,a4⟩
   ·exact ⟨hW,.inl ⟨a1,_,(a2.on (w':=w3) fun k _ _=>by rw[hl3.1]).own fun k hk _=>up k hk⟩⟩
   ·exact ⟨hW,.inr ⟨a1,a2,M',_,a3,(a4.on (w':=w3) fun k _ _=>by rw[hl3.1]).own fun k hk _=>up k hk⟩⟩
 refine (HW _ _ cs c3 hS).trans ?_
 rintro c4 ⟨e,a',w',⟨rfl,rfl,hTH⟩,harr⟩
 have hS:Stands PP _ cs w' c4:=harr
 rw[rest14_eq]at hS
 obtain ⟨hst,hr⟩:=hTH
 obtain ⟨g,hMG⟩:=hP.mat
 obtain ⟨Q1,f1,T',tn,hQ1,e1,htn,hw,ht0,hHi,hsi',hlen,hvw⟩:∃ Q1 f1 T' tn,PG w' (Nw D W.heap.size) Q1 f1∧Q1.pb=Q.pb∧Q1.M.S.turn=((tn:Nat):Int)∧(((Q1.over=true∨Q1.turns=1000)∧tn=Q1.turns)∨(Q1.over=false∧Q1.turns<1000∧tn=Q1.turns+1))∧Q1.turns≤1000∧Hist sd P { Q1 with turns:=tn,over:=overB Q1.M.S } T'∧Q1.since≠[]∧T'.length=(if Q.over=true∨T.length=1000 then T.length else T.length+1)∧({ Q1 with turns:=tn,over:=overB Q1.M.S }:PSt).vw=Q.vw.tick:=by
  have htu:=hH.turns
  have hmo:=hH.most
  have hov:=hH.over
  rcases hr with ⟨a1,f1,a2⟩|⟨a1,a2,M',f1,a3,a4⟩
  ·have hcase:Q.over=true∨T.length=1000:=by
    rcases a1 with x|⟨_,x⟩
    ·exact .inl (hov.trans x)
    ·exact .inr x
   refine ⟨Q,f1,T,Q.turns,a2,rfl,by rw[hH.turn,htu],.inl ⟨by rw[htu];exact hcase,rfl⟩,by omega,?_,hsi,by rw[if_pos hcase],hH.vw_idle hcase⟩
   have e:({ Q with turns:=Q.turns,over:=overB Q.M.S }:PSt)=Q:=by rw[← hov]
   rw[e]
   exact hH
  ·have hcase:¬ (Q.over=true∨T.length=1000):=by
    rintro (x|x)
    ·rw[hov,a1]at x;cases x
    ·omega
   refine ⟨{ Q with M:=M' },f1,T++[Q.M.turn],T.length+1,a4,rfl,?_,.inr ⟨hov.trans a1,by show Q.turns<1000;omega,by show T.length+1=Q.turns+1;omega⟩,by show Q.turns≤1000;omega,hH.tick hMG.ok a3 a1 a2 hsi,hsi,by rw[if_neg hcase];simp,hH.vw_tick hcase a3 _ _⟩
   show M'.S.turn=_
   rw[a3.S,(doF_turn Q.M.S Q.M.turn).1,hH.turn]
   push_cast
   rfl
 have hQ:∀ t d,(after 2 kTick).wp PP.s (TickQ2 (re w' t d) (Nw D W.heap.size) Q1 tn (overB Q1.M.S)) (ab Q.pb (.int .i64 0) (pW Q.pb) (pW Q.pb) (pW Q.pb) (pW Q.hbk) (pW Q.pb) (pW Q.pb) (.pointer (some ⟨Q.pb,1,none⟩)) (.int .i64 Q.m) (.slice (some ⟨W.heap.size,0,none⟩) 1 1) (.int .i64 0)) (re w' t d):=fun t d =>
  ktick_rest (hQ1.on (w':=re w' t d) fun _ _ _=>rfl) htn hw ht0 rfl (by rw[e1];rfl) rfl
 have hQ':∀ t d,(after 2 kTick).wp PP.s (fun e a w2=>e=.ret∧a.defers=[]∧a.tmps.getD 2 undef=.bool true∧TickP W D Q.pb sd P Q T w2) (ab Q.pb (.int .i64 0) (pW Q.pb) (pW Q.pb) (pW Q.pb) (pW Q.hbk) (pW Q.pb) (pW Q.pb) (.pointer (some ⟨Q.pb,1,none⟩)) (.int .i64 Q.m) (.slice (some ⟨W.heap.size,0,none⟩) 1 1) (.int .i64 0)) (re w' t d):=fun t d =>
  wp_mono (hQ t d) fun e a w2 ⟨q1,q2,q3,⟨f2,q4⟩,q5⟩=>⟨q1,q2,q3,hst.trans ⟨q5.os,q5.output,q5.size,q5.block⟩,_,T',⟨⟨f2,q4.own fun k hd _=>hd.elim id fun x=>.inr (Nat.le_trans hst.size x)⟩,hHi,e1,hsi'⟩,hlen,hvw⟩
 refine (WB.of_wp PP_rdy (fun e a w h=>.inr (.inl h.1)) hQ' _ _ cs c4 hS).mono ?_
 rintro c5 ⟨e,a2,w2,⟨t,d,rfl,q2,q3,q4⟩,todo,hS⟩
 refine ⟨a2,w2,todo,.bool true,q2,⟨t,d,by rw[results_tmp rfl,q3]⟩,⟨rfl,?_⟩,hS⟩
 obtain ⟨b1,Q',T2,b2,b3⟩:=q4
 exact ⟨⟨b1.os,b1.output,b1.size,b1.block⟩,Q',T2,PA.on b2 fun _ _ _=>rfl,b3⟩
end
end Go.Proofs.YtdianedehhecoaaGreatDoor.Co
/- A play's move, beside leavers. -/
namespace Go.Proofs.YtdianedehhecoaaGreatDoor.Co
variable [Loops]
open Go.Conc (G)
open Go.RowKit
def bkC:Code→Code
 | .block _ x=>x
 | c=>c
def ctC:Code→Code
 | .cond _ x _=>x
 | c=>c
def ceC:Code→Code
 | .cond _ _ y=>y
 | c=>c
def lpC:Code→Code
 | .loop x=>x
 | c=>c
noncomputable def c22:Code:=(Tryz.f22.body).getD .skip
noncomputable def x22:Code:=bkC (sq2 (sq1 (sq2 c22)))
noncomputable def ops22:Array Oper:=opsOf (sq1 (ctC (sq2 x22)))
theorem c22_eq:c22=.seq (sq1 c22) (.seq (.seq (sq1 (sq1 (sq2 c22))) (.block 0 x22)) (sq2 (sq2 c22))):=by kernel_rfl
theorem x22_eq:x22=.seq (sq1 x22) (.cond (.tmp 9) (.seq (.region 4 ops22 false) .ret) (ceC (sq2 x22))):=by kernel_rfl
theorem f22_fn:PP.fg[22]? = some Tryz.f22:=by kernel_rfl
theorem f22_same:PP.fs[22]? = PP.fg[22]?:=by kernel_rfl
theorem f22_body:Tryz.f22.body=some c22:=by kernel_rfl
def am (pb:Nat)(kd c t6 t7 t8 t9 t10 t11 t12 t13:Value):Act:=⟨#[pW pb,kd,c,undef,undef,undef,t6,t7,t8,t9,t10,t11,t12,t13,undef,undef,undef,undef,undef,undef,undef,undef,undef,undef,undef,undef,undef,undef,undef,undef,undef,undef,undef,undef,undef],[]⟩
theorem a22 (pb:Nat)(kd c:Value):({ tmps:=#[pW pb,kd,c]++Array.replicate (Tryz.f22.ntmps-(#[pW pb,kd,c]:Array Value).size) undef,defers:=[] }:Act)=am pb kd c undef undef undef undef undef undef undef undef:=by kernel_rfl
section
variable {W:World} {pb:Nat} {kind c k:Int}
theorem w22_0 (t:Nat→Question→Nat)(d:Nat):(sq1 c22).wp PP.s (fun e a' w'=>e=.normal∧a'=am pb (.int .i64 kind) (.int .i64 c) (.bool false) undef undef undef undef undef undef undef∧like w' W) (am pb (.int .i64 kind) (.int .i64 c) undef undef undef undef undef undef undef undef) (re W t d):=by
 show Code.wp Pz.prog (sq1 c22) _ _ _
 simp only[sq1,c22,Tryz.f22,Option.getD,am]
 go_wp2
 exact ⟨rfl,rfl,rfl⟩
theorem w22_1 (hk:∀ w,Calls Pz.prog 25 #[.int .i64 kind,.int .i64 10] w fun e w'=>e=.returned (.int .i64 k)∧w'=w)(t:Nat→Question→Nat)(d:Nat):(sq1 (sq1 (sq2 c22))).wp PP.s (fun e a' w'=>e=.normal∧a'=am pb (.int .i64 kind) (.int .i64 c) (.bool false) (.int .i64 kind) (.int .i64 k) undef undef undef undef undef∧like w' W) (am pb (.int .i64 kind) (.int .i64 c) (.bool false) undef undef undef undef undef undef undef) (re W t d):=by
 have HK:=(show Hid _ from hk)
 clear hk
 show Code.wp Pz.prog (sq1 (sq1 (sq2 c22))) _ _ _
 simp only[sq1,sq2,c22,Tryz.f22,Option.getD,am]
 go_wp2_with (go_at_call 25;refine Calls.mono (HK.out _) ?_;rintro e w' ⟨rfl,hw⟩;rw[hw];clear hw w')
 exact ⟨rfl,rfl,rfl⟩
def K22 (pb:Nat)(kind c k:Int)(a':Act):Prop:=∃ t10 t11,a'=am pb (.int .i64 kind) (.int .i64 c) (.bool false) (.int .i64 kind) (.int .i64 k) (.bool true) t10 t11 undef undef
theorem w22_2 (hk:k=0∨k=1)(t:Nat→Question→Nat)(d:Nat):(sq1 x22).wp PP.s (fun e a' w'=>e=.normal∧K22 pb kind c k a'∧like w' W) (am pb (.int .i64 kind) (.int .i64 c) (.bool false) (.int .i64 kind) (.int .i64 k) undef undef undef undef undef) (re W t d):=by
 show Code.wp Pz.prog (sq1 x22) _ _ _
 simp only[sq1,sq2,x22,bkC,c22,Tryz.f22,Option.getD,am]
 rcases hk with rfl|rfl
 ·go_wp2
  exact ⟨⟨_,_,rfl⟩,rfl,rfl,rfl⟩
 ·go_wp2
  exact ⟨⟨_,_,rfl⟩,rfl,rfl,rfl⟩
end
theorem o22_0:∃ o,ops22[0]? = some o∧o.op=.move (.tmp 0)∧o.dst=some 12∧o.guard=none:=⟨(ops22[0]?).getD default,by kernel_rfl,by kernel_rfl,by kernel_rfl,by kernel_rfl⟩
theorem o22_1 : ops22[1]? = some { dst := some 13, op := .call { callee := .value (.func 14), args := #[.tmp 12], argTypes := #[26] }, type := 4, pos := "keeps.go:122", after := #[{ on := 0, ground := .data }], guard := none } := by kernel_rfl
theorem o22_2:∃ o,ops22[2]? = some o∧o.op=.assign (.tmp 13)∧o.dst=some 6∧o.guard=none:=⟨(ops22[2]?).getD default,by kernel_rfl,by kernel_rfl,by kernel_rfl,by kernel_rfl⟩
theorem range22:List.range ops22.size=[0,1,2]:=by kernel_rfl
section
variable {W:World} {D:Nat→Prop} {Q:PSt} {sd:Int} {P pb:Nat} {T:List (List RC)}
def MoveC (W:World)(D:Nat→Prop)(pb:Nat)(sd:Int)(P:Nat)(V:Vw)(w':World):Prop:=Stays D W w'∧∃ Q' T',PA w' (Nw D W.heap.size) pb sd P T' Q'∧Q'.vw=V
theorem wb_piece {x:Code}{a:Act}{K:Act→Prop}{w:World}(h:∀ t d,x.wp PP.s (fun e a' w'=>e=.normal∧K a'∧like w' w) a (re w t d)):WB PP x (fun e a' w'=>e=.normal∧K a'∧like w' w) a w :=
 (WB.of_wp PP_rdy (fun e a w h=>.inl h.1) h).mono fun e a w' ⟨t,d,h1,h2,h3⟩=>⟨h1,h2,h3⟩
theorem move_cb (h:PA W D pb sd P T Q)(p1:1≤P)(kind c:Int)(k0:-9223372036854775808≤kind)(k1:kind≤9223372036854775807)(c0:-9223372036854775808≤c)(c1:c≤9223372036854775807)(hd:W.cell? ⟨4,15,none⟩=some (.int .u8 4))(hdl:¬ D 4)(hD:∀ k,D k→k<W.heap.size) :
  CB PP 22 #[pW pb,.int .i64 kind,.int .i64 c] W fun v w'=>v=.bool true∧MoveC W D pb sd P (Q.vw.move P kind c) w':=by
 by_cases hk:2≤pickF kind 10
 ·refine (CB.of_calls PP_rdy (R:=fun t d e w'=>e=.returned (.bool true)∧MoveL (re W t d) D pb sd P T (Q.vw.move P kind c) w') f22_same (fun t d e w' hr=>⟨_,hr.1⟩) fun t d=>PA.moveL (PA.on h (w':=re W t d) fun _ _ _=>rfl) p1 kind c k0 k1 c0 c1 hk).mono ?_
  rintro v w' ⟨t,d,t',d',he,hk,Q',hP,hV⟩
  injection he with he
  exact ⟨he,⟨hk.os,hk.output,hk.size,hk.block⟩,Q',T,PA.on hP fun _ _ _=>rfl,hV⟩
 ·have hr:=pickF_range kind 10 (by omega)
  have hk01:pickF kind 10=0∨pickF kind 10=1:=by omega
  have hpk:∀ w,Calls Pz.prog 25 #[.int .i64 kind,.int .i64 10] w fun e w'=>e=.returned (.int .i64 (pickF kind 10))∧w'=w:=fun w=>kpick_any kind 10 w k0 k1 (by omega) (by omega)
  refine CB.of_WB PP_rdy f22_fn f22_same f22_body ?_
  rw[a22,c22_eq]
  refine WB.seq ((wb_piece (K:=fun a'=>a'=am pb (.int .i64 kind) (.int .i64 c) (.bool false) undef undef undef undef undef undef undef) w22_0).mono ?_)
  rintro e a w1 ⟨rfl,rfl,l1⟩
  refine WB.seq (WB.seq ((wb_piece (K:=fun a'=>a'=am pb (.int .i64 kind) (.int .i64 c) (.bool false) (.int .i64 kind) (.int .i64 (pickF kind 10)) undef undef undef undef undef) (w22_1 hpk)).mono ?_))
  rintro e a w2 ⟨rfl,rfl,l2⟩
  refine WB.block ?_
  rw[x22_eq]
  refine WB.seq ((wb_piece (K:=K22 pb kind c (pickF kind 10)) (w22_2 hk01)).mono ?_)
  rintro e a w3 ⟨rfl,⟨t10,t11,rfl⟩,l3⟩
  refine WB.cond (t:=true) (by kernel_rfl) ?_
  rw[if_pos rfl]
  have l:like w3 W:=⟨l3.1.trans (l2.1.trans l1.1),l3.2.1.trans (l2.2.1.trans l1.2.1),l3.2.2.trans (l2.2.2.trans l1.2.2)⟩
  have h3:PA w3 D pb sd P T Q:=PA.on h fun k _ _=>by rw[l.1]
  have hd3:w3.cell? ⟨4,15,none⟩=some (.int .u8 4):=(World.cell?_of_block (w:=W) (by rw[l.1])).trans hd
  have hD3:∀ k,D k→k<w3.heap.size:=fun k hk=>by rw[l.1];exact hD k hk
  refine WB.seq (WB.region ?_)
  rw[range22]
  obtain ⟨o,ho,hop,hds,hgd⟩:=o22_0
  refine WR.pre (pre:=[0]) (rest:=[1,2]) (K:=fun a4 w4=>a4=am pb (.int .i64 kind) (.int .i64 c) (.bool false) (.int .i64 kind) (.int .i64 (pickF kind 10)) (.bool true) t10 t11 (pW pb) undef∧like w4 w3) PP_rdy (fun t d=>?_) ?_
  ·refine wpOps_val (v:=pW pb) (w':=re w3 t d) ho hgd ?_ ?_
   ·unfold execOp
    rw[hop]
    rfl
   ·rw[hds]
    exact ⟨rfl,rfl,rfl,rfl,rfl⟩
  rintro a4 w4 ⟨t,d,rfl,l4⟩
  have l4:like w4 w3:=l4
  have h4:PA w4 D pb sd P T Q:=PA.on h3 fun k _ _=>by rw[l4.1]
  refine WR.call o22_1 rfl rfl f14_fn (by kernel_rfl) (by kernel_rfl) ?_
  rw[show (#[Operand.tmp 12].map (am pb (.int .i64 kind) (.int .i64 c) (.bool false) (.int .i64 kind) (.int .i64 (pickF kind 10)) (.bool true) t10 t11 (pW pb) undef).eval)=#[pW pb] by kernel_rfl]
  refine (tick_cb2 h4 ((World.cell?_of_block (w:=w3) (by rw[l4.1])).trans hd3) hdl fun k hk=>by rw[l4.1];exact hD3 k hk).mono ?_
  rintro v w5 ⟨rfl,hst,Q',T',hP,-,hV⟩
  obtain ⟨o,ho,hop,hds,hgd⟩:=o22_2
  refine WR.pre (pre:=[2]) (rest:=[]) (K:=fun a6 w6=>a6=am pb (.int .i64 kind) (.int .i64 c) (.bool true) (.int .i64 kind) (.int .i64 (pickF kind 10)) (.bool true) t10 t11 (pW pb) (.bool true)∧like w6 w5) PP_rdy (fun t d=>?_) ?_
  ·refine wpOps_val (v:=.bool true) (w':=re w5 t d) ho hgd ?_ ?_
   ·unfold execOp
    rw[hop]
    rfl
   ·rw[hds]
    exact ⟨rfl,rfl,rfl,rfl,rfl⟩
  rintro a6 w6 ⟨t,d,rfl,l6⟩
  have l6:like w6 w5:=l6
  refine WR.nil ?_
  have hfin:MoveC W D pb sd P (Q.vw.move P kind c) w6:=by
   have hW4:w4.heap=W.heap:=l4.1.trans l.1
   refine ⟨⟨l6.2.1.trans (hst.os.trans (l4.2.1.trans l.2.1)),l6.2.2.trans (hst.output.trans (l4.2.2.trans l.2.2)),by rw[l6.1];have:=hst.size;rw[hW4]at this;exact this,fun j hj hn=>by rw[l6.1,hst.block j (by rw[hW4];exact hj) hn,hW4]⟩,Q',T',?_,by unfold Vw.move;rw[if_pos (by omega)];exact hV⟩
   rw[hW4]at hP
   exact PA.on hP fun k _ _=>by rw[l6.1]
  refine (WB.of_wp PP_rdy (Q:=fun e a w'=>e=.ret∧a=am pb (.int .i64 kind) (.int .i64 c) (.bool true) (.int .i64 kind) (.int .i64 (pickF kind 10)) (.bool true) t10 t11 (pW pb) (.bool true)∧like w' w6) (fun e a w h=>.inr (.inl h.1)) fun t d=>?_).mono ?_
  ·show Code.wp Pz.prog .ret _ _ _
   go_wp2
   exact ⟨rfl,rfl,rfl⟩
  ·rintro e a w7 ⟨t,d,rfl,rfl,l7⟩
   have l7:like w7 w6:=l7
   refine ⟨.inr rfl,rfl,.bool true,⟨t,d,by rw[results_tmp rfl];rfl⟩,rfl,?_⟩
   obtain ⟨b1,Q2,T2,b2,b3⟩:=hfin
   exact ⟨⟨l7.2.1.trans b1.os,l7.2.2.trans b1.output,by rw[l7.1];exact b1.size,fun j hj hn=>by rw[l7.1];exact b1.block j hj hn⟩,Q2,T2,PA.on b2 fun k _ _=>by rw[l7.1],b3⟩
end
end Go.Proofs.YtdianedehhecoaaGreatDoor.Co
/- A region whose operations but the last two yield the same in whatever order; a play's script, beside leavers. -/
namespace Go.Proofs.YtdianedehhecoaaGreatDoor.Co
variable [Loops]
open Go.Conc (G)
open Go.RowKit
section
variable {P:Program} {md:Region.Mode} {ops:Array Oper} {n N:Nat} {V base:Nat→Value} {dst:Nat→Nat} {w:World} {K:Act→World→Prop}
theorem put_getD (a:Act)(d s:Nat)(v:Value)(hd:d<a.tmps.size):(a.put (some d) v).tmps.getD s undef=if s=d then v else a.tmps.getD s undef:=by
 show (a.tmps.setIfInBounds d v).getD s undef=_
 by_cases e:s=d
 ·subst e
  simp[Array.getD,hd]
 ·rw[if_neg e]
  simp only[Array.getD,Array.size_setIfInBounds]
  by_cases hs:s<a.tmps.size
  ·rw[dif_pos hs,dif_pos hs]
   show (a.tmps.setIfInBounds d v)[s]'(by simpa using hs)=a.tmps[s]
   rw[Array.getElem_setIfInBounds_ne (by simpa using hs) (Ne.symm e)]
  ·rw[dif_neg hs,dif_neg hs]
theorem act_size (a:Act)(d:Nat)(v:Value):(a.put (some d) v).tmps.size=a.tmps.size:=by
 show (a.tmps.setIfInBounds d v).size=_
 simp
theorem up_stable (hC:Chk md ops n)(hdst:∀ i,i<n→dst i<N)(hinj:∀ i j,i<n→j<n→dst i=dst j→i=j)
  (hop:∀ i,i<n→∃ o,ops[i]? = some o∧o.guard=none∧o.dst=some (dst i)∧∀ a:Act,(∀ j,j<n→Edge md ops i j→a.tmps.getD (dst j) undef=V j)→(∀ s,(∀ j,j<n→dst j≠s)→a.tmps.getD s undef=base s)→(execOp a.eval o).run P w=.ok (.value (V i)) w)
  (hK:∀ a:Act,a.tmps.size=N→a.defers=[]→(∀ j,j<n→a.tmps.getD (dst j) undef=V j)→(∀ s,(∀ j,j<n→dst j≠s)→a.tmps.getD s undef=base s)→K a w)
  (a:Act)(ha:a.tmps.size=N)(hde:a.defers=[])(hb:∀ s,a.tmps.getD s undef=base s):wpUp P md ops K n (Array.replicate ops.size false) a w:=by
 have key:∀ fuel k l (a:Act),k+fuel=n→Done md ops n k l→a.tmps.size=N→a.defers=[]→(∀ j,j<n→l.getD j false=true→a.tmps.getD (dst j) undef=V j)→(∀ s,(∀ j,j<n→dst j≠s)→a.tmps.getD s undef=base s)→wpUp P md ops K fuel l a w:=by
  intro fuel
  induction fuel with
  | zero =>
   intro k l a hk h h1 h2 h3 h4
   have e:k=n:=by omega
   subst e
   exact hK a h1 h2 (fun j hj=>h3 j hj (cnt_all _ k h.cnt j hj)) h4
  | succ fuel ih =>
   intro k l a hk h h1 h2 h3 h4
   refine ⟨h.ready_ne hC (by omega),fun i hi=>?_⟩
   have hin:=h.ready_lt hC (by omega) i hi
   obtain ⟨o,ho,hg,hds,hr⟩:=hop i hin
   refine wpOp_val ho hg (hr a (fun j hj he=>h3 j hj (ready_deps hi he)) h4) ?_
   rw[hds]
   refine ih (k+1) _ _ (by omega) (h.step hC hi hin) (by rw[act_size];exact h1) h2 (fun j hj hl=>?_) fun s hs=>?_
   ·rw[put_getD a (dst i) (dst j) (V i) (by rw[h1];exact hdst i hin)]
    by_cases e:j=i
    ·subst e
     rw[if_pos rfl]
    ·rw[if_neg (fun x=>e (hinj j i hj hin x))]
     refine h3 j hj ?_
     rw[getD_set_ne false (Ne.symm e)]at hl
     exact hl
   ·rw[put_getD a (dst i) s (V i) (by rw[h1];exact hdst i hin),if_neg (fun x=>hs i hin x.symm)]
    exact h4 s hs
 exact key n 0 _ a (by omega) (Done.start hC) ha hde (fun j hj hl=>by
  have:(Array.replicate ops.size false).getD j false=false:=by
   simp only[Array.getD]
   split<;>simp
  rw[this]at hl
  cases hl) fun s _=>hb s
end
noncomputable def c13:Code:=(Tryz.f13.body).getD .skip
end Go.Proofs.YtdianedehhecoaaGreatDoor.Co
/- A play's script, beside leavers. -/
namespace Go.Proofs.YtdianedehhecoaaGreatDoor.Co
variable [Loops]
open Go.Conc (G)
open Go.RowKit
def V13 (pb g o:Nat)(sl:Value)(i:Nat)(kd c:Int):Nat→Value
 | 0=>pW pb
 | 1=>sl
 | 2=>.int .i64 i
 | 3=>.pointer (some ⟨g,o+i,none⟩)
 | 4=>.int .i64 kd
 | 5=>sl
 | 6=>.int .i64 i
 | 7=>.int .i64 ((i:Int)+1)
 | 8=>.pointer (some ⟨g,o+(i+1),none⟩)
 | _=>.int .i64 c
structure A13 (pb:Nat)(sl:Value)(i:Int)(a:Act):Prop where
 size:a.tmps.size=27
 defers:a.defers=[]
 s0:a.tmps.getD 0 undef=pW pb
 s1:a.tmps.getD 1 undef=sl
 s5:a.tmps.getD 5 undef=.int .i64 i
section
variable {w:World} {pb g o cap n i:Nat} {kd c:Int} {a0:Act}
end
def Scr (w:World)(N:Nat)(v:Value)(L:List Int):Prop :=
 ∃ a cap,v=.slice a L.length cap∧∀ k,k<L.length→∃ g o,a=some ⟨g,o,none⟩∧g<N∧w.cell? ⟨g,o+k,none⟩=some (.int .i64 (L.getD k 0))∧-9223372036854775808≤L.getD k 0∧L.getD k 0≤9223372036854775807
theorem Scr.on {w w':World}{N:Nat}{v:Value}{L:List Int}(h:Scr w N v L)(hb:∀ k,k<N→w'.heap[k]? = w.heap[k]?):Scr w' N v L:=by
 obtain ⟨a,cap,e,hk⟩:=h
 refine ⟨a,cap,e,fun k hkl=>?_⟩
 obtain ⟨g,o,h1,h2,h3,h4⟩:=hk k hkl
 exact ⟨g,o,h1,h2,(World.cell?_of_block (w:=w) (hb g h2)).trans h3,h4⟩
section
variable {w:World} {pb n:Nat} {sa:Option Addr} {cap:Nat} {i:Int} {a:Act}
structure B13 (pb:Nat)(sl:Value)(a:Act):Prop where
 size:a.tmps.size=27
 defers:a.defers=[]
 s0:a.tmps.getD 0 undef=pW pb
 s1:a.tmps.getD 1 undef=sl
end
section
variable {W w:World} {N pb:Nat} {sd:Int} {P:Nat} {L:List Int} {sa:Option Addr} {cap i:Nat} {a:Act}
end
end Go.Proofs.YtdianedehhecoaaGreatDoor.Co