/- One watcher more of a play: watch. -/
import Derived.Test.YtdianedehhecoaaGreatDoorTPlaySubmits
set_option linter.unusedVariables false
set_option linter.unusedSimpArgs false
set_option maxHeartbeats 4000000
set_option maxRecDepth 20000
namespace Go.Proofs.YtdianedehhecoaaGreatDoor
open Go.RowKit
structure PGo (w:World)(D:Nat→Prop)(Q:PSt)(f:PIx→Nat→Prop):Prop where
 parts:Parts Q.A f w
 low:∀ i k,f i k→k<w.heap.size→D k
section
variable {w w':World} {D D':Nat→Prop} {Q Q':PSt} {f f':PIx→Nat→Prop} {T:PIx→Prop}
theorem PG.raw (h:PG w D Q f):PGo w D Q f:=⟨h.parts,h.low⟩
theorem PGo.whole (h:PGo w D Q f)(hok:POk Q):PG w D Q f:=⟨h.parts,h.low,hok⟩
theorem PGo.own (h:PGo w D Q f)(hD:∀ k,D k→k<w.heap.size→D' k):PGo w D' Q f:={ h with low:=fun i k hf hl=>hD k (h.low i k hf hl) hl }
theorem PGo.on (h:PGo w D Q f)(hk:∀ k,D k→k<w.heap.size→w'.heap[k]? = w.heap[k]?):PGo w' D Q fun i k=>f i k∧k<w.heap.size :=
 ⟨⟨fun i j k hi hj=>h.parts.apart i j k hi.1 hj.1,fun i=>(Q.loc i).on ((Q.loc i).own (h.parts.part i) fun k ho hl=>⟨ho,hl⟩) fun k ho hl=>hk k (h.low i k ho.1 hl) hl⟩,fun i k hf _=>h.low i k hf.1 hf.2⟩
theorem PGo.change (h:PGo w D Q f)(hk:Keep (fun k=>∃ i,T i∧f i k) w w')(ha:∀ i j k,T i→T j→f' i k→f' j k→i=j)(hf:∀ i k,T i→f' i k→(∃ j,T j∧f j k)∨w.heap.size≤k)
  (hp:∀ i,T i→Q'.A i w' (f' i))(hs:∀ i,¬ T i→Q'.A i=Q.A i):∃ f'',PGo w' (Nw D w.heap.size) Q' f''∧Keep D w w':=by
 have hlow:∀ j k,f j k→k<w.heap.size→D k:=h.low
 refine ⟨_,⟨h.parts.step (T:=T) (f':=f') Q.loc hk ha hf hp hs,?_⟩,?_⟩
 ·rintro i k (⟨ti,hf'⟩|⟨_,hf',hl⟩) hk'
  ·by_cases hl:k<w.heap.size
   ·rcases hf i k ti hf' with ⟨j,_,hj⟩|hj
    ·exact .inl (hlow j k hj hl)
    ·omega
   ·exact .inr (by omega)
  ·exact .inl (hlow i k hf' hl)
 ·refine hk.mono ?_
  rintro k ⟨i,_,hf'⟩
  by_cases hl:k<w.heap.size
  ·exact .inl (hlow i k hf' hl)
  ·exact .inr (by omega)
theorem PGo.play (h:PGo w D Q f):BlkAt w Q.pb Q.cells 37:=(h.parts.part .pl).2
theorem PGo.fpl (h:PGo w D Q f):f .pl Q.pb:=(h.parts.part .pl).1
theorem PGo.grow (h:PGo w D Q f){i:PIx}{ci e n:Nat}{v v' x:Value}{xs:List Value}{o:Obj}{w4:World}(hi:i≠.pl)(hA:Q.A i=rowA e 1 v n xs)(hA':Q'.A i=rowA e 1 v' (n+1) (xs++[x]))(hpl:Q'.A .pl=blkA Q.pb (Q.cells.set ci v') 37)
  (hs:∀ j,j≠i→j≠.pl→Q'.A j=Q.A j)(hg:(w.alloc o).grownBy w4 v.ownBlock)(hr:RowAt w4 e 1 v' (n+1) (xs++[x]))(hob:v'.ownBlock=v.ownBlock∨v'.ownBlock=some (w.alloc o).heap.size) :
  ∃ f',PGo (w4.setCell ⟨Q.pb,ci,none⟩ v') (Nw D w.heap.size) Q' f'∧Keep D w (w4.setCell ⟨Q.pb,ci,none⟩ v'):=by
 have hz2:(w.alloc o).heap.size=w.heap.size+1:=by simp
 have hz3:=hg.size
 have hpl0:=h.play.lt
 have hrow:=h.parts.part i
 rw[hA]at hrow
 have fi:∀ k,v.ownBlock=some k→f i k:=hrow.2
 have hnp:v.ownBlock≠some Q.pb:=fun e=>hi (h.parts.apart _ _ _ (fi _ e) h.fpl)
 have old:∀ j:Nat,j<w.heap.size→v.ownBlock≠some j→w4.heap[j]? = w.heap[j]?:=fun j hj h1=>by
  rw[hg.block j (by omega) (fun e=>h1 e.symm),Below.heap_alloc _ _ _ (by omega)]
 have hown:∀ k,v'.ownBlock=some k→v.ownBlock=some k∨w.heap.size≤k:=fun k e=>by
  rcases hob with x|x
  ·exact .inl (x▸e)
  ·rw[x]at e;have e:=Option.some.inj e;exact .inr (by omega)
 have hnp':v'.ownBlock≠some Q.pb:=fun e=>by
  rcases hown _ e with x|x
  ·exact hnp x
  ·omega
 have hkk:Keep (fun j=>j=Q.pb∨v.ownBlock=some j) w (w4.setCell ⟨Q.pb,ci,none⟩ v'):=⟨hg.os,hg.tape,hg.output,by rw[World.heap_setCell_size];omega,fun j hj hn=>by
  rw[Below.heap_setCell _ ⟨Q.pb,ci,none⟩ _ j (fun e=>hn (.inl e))]
  exact old j hj fun e=>hn (.inr e)⟩
 refine h.change (Q':=Q') (T:=fun x=>x=.pl∨x=i) (f':=fun x k=>(x=.pl∧k=Q.pb)∨(x=i∧v'.ownBlock=some k)) (hkk.mono fun k hk=>.inl ?_) ?_ ?_ ?_ ?_
 ·rcases hk with rfl|hk
  ·exact ⟨.pl,.inl rfl,h.fpl⟩
  ·exact ⟨i,.inr rfl,fi _ hk⟩
 ·rintro a c k _ _ (⟨rfl,ha⟩|⟨rfl,ha⟩) (⟨rfl,hb⟩|⟨hc,hb⟩)
  ·rfl
  ·subst ha;exact absurd hb hnp'
  ·subst hb;exact absurd ha hnp'
  ·exact hc.symm
 ·rintro x k _ (⟨rfl,rfl⟩|⟨rfl,hw⟩)
  ·exact .inl ⟨.pl,.inl rfl,h.fpl⟩
  ·rcases hown k hw with x|x
   ·exact .inl ⟨_,.inr rfl,fi _ x⟩
   ·exact .inr x
 ·rintro x (rfl|rfl)
  ·rw[hpl]
   exact ⟨.inl ⟨rfl,rfl⟩,(h.play.same (old _ hpl0 hnp)).set ci v'⟩
  ·rw[hA']
   exact ⟨hr.other hnp',fun k e=>.inr ⟨rfl,e⟩⟩
 ·intro x hx
  exact hs x (fun e=>hx (.inr e)) (fun e=>hx (.inl e))
def PSt.watched (Q:PSt)(b:Nat)(lv sv nv:Value):PSt:={ Q with M:=Q.M.more b lv,sv:=sv,seen:=Q.seen++[⟨#[]⟩],nv:=nv,since:=Q.since++[Q.turns] }
theorem POk.watched (h:POk Q)(b:Nat)(lv sv nv:Value)(h6:Q.M.ws.length<6):POk (Q.watched b lv sv nv):=by
 have e:(Q.watched b lv sv nv).M.ws.length=Q.M.ws.length+1:=by simp[PSt.watched,MSt.more]
 refine ⟨h.lock,h.last,h.rooms,?_,?_,by omega⟩
 ·rw[e]
  simp[PSt.watched,h.seen]
 ·rw[e]
  simp[PSt.watched,h.since]
theorem PG.hosted (h:PG w D Q f){b:Nat}{lv:Value}{g:MIx→Nat→Prop}(hM:MG w' (Nw (f .mt) w.heap.size) (Q.M.more b lv) g)(hho:BlkAt w' Q.hbk (hostW Q.ms.length Q.rb (Q.M.ws.map (·.b)++[b])) 120)(hk:Keep (fun k=>f .mt k∨k=Q.hbk) w w') :
  ∃ f',PGo w' (Nw D w.heap.size) { Q with M:=Q.M.more b lv } f'∧Keep D w w':=by
 have hhl:=h.host.lt
 refine h.raw.change (Q':={ Q with M:=Q.M.more b lv }) (T:=fun x=>x=.mt∨x=.ho) (f':=fun x k=>(x=.mt∧Nw (f .mt) w.heap.size k)∨(x=.ho∧k=Q.hbk)) (hk.mono fun k hk=>.inl ?_) ?_ ?_ ?_ ?_
 ·rcases hk with hk|rfl
  ·exact ⟨.mt,.inl rfl,hk⟩
  ·exact ⟨.ho,.inr rfl,h.fho⟩
 ·have key:∀ k,Nw (f .mt) w.heap.size k→k=Q.hbk→False:=fun k h1 h2=>by
   subst h2
   rcases h1 with h1|h1
   ·exact h.ne h1 h.fho (by simp) rfl
   ·omega
  rintro a c k _ _ (⟨rfl,ha⟩|⟨rfl,ha⟩) (⟨rfl,hb⟩|⟨rfl,hb⟩)
  ·rfl
  ·exact (key k ha hb).elim
  ·exact (key k hb ha).elim
  ·rfl
 ·rintro x k _ (⟨rfl,hw|hw⟩|⟨rfl,rfl⟩)
  ·exact .inl ⟨.mt,.inl rfl,hw⟩
  ·exact .inr hw
  ·exact .inl ⟨.ho,.inr rfl,h.fho⟩
 ·rintro x (rfl|rfl)
  ·refine ⟨g,hM.own fun k hd _=>.inl ⟨rfl,hd⟩⟩
  ·refine ⟨.inr ⟨rfl,rfl⟩,?_⟩
   show BlkAt w' Q.hbk (hostW Q.ms.length Q.rb ((Q.M.more b lv).ws.map (·.b))) _
   rw[show (Q.M.more b lv).ws.map (·.b)=Q.M.ws.map (·.b)++[b] by simp[MSt.more]]
   exact hho
 ·intro x hx
  cases x<;>first|rfl|exact absurd (.inl rfl) hx|exact absurd (.inr rfl) hx
def WatchK (w:World)(D:Nat→Prop)(Q:PSt)(e:Ending)(w':World):Prop :=
 e=.returned (.bool true)∧Keep D w w'∧((6≤Q.M.ws.length∧∃ f',PG w' (Nw D w.heap.size) Q f')∨(Q.M.ws.length<6∧∃ b lv sv nv f',PG w' (Nw D w.heap.size) (Q.watched b lv sv nv) f'))
theorem PG.watch (h:PG w D Q f)(hts:Q.turns≤100000) :
  Calls Pz.prog 21 #[.pointer (some ⟨Q.pb,0,none⟩)] w (WatchK w D Q):=by
 obtain ⟨g,hM⟩:=h.mat
 obtain ⟨sa,scap,esv⟩:=row_slice h.seen
 obtain ⟨na,ncap,env⟩:=row_slice h.since
 have hsn:=h.ok.seen
 have hsi:=h.ok.since
 have h6:=h.ok.six
 have c8:w.cell? ⟨Q.pb,8,none⟩=some (.slice sa Q.seen.length scap):=by rw[← esv];exact h.play.cell rfl
 by_cases hw6:Q.M.ws.length<6
 ·obtain ⟨n,hn⟩:∃ n,n=Q.seen.length:=⟨_,rfl⟩
  have hnw:n=Q.M.ws.length:=by omega
  have hns:Q.since.length=n:=by omega
  rw[← hn]at c8
  have c0:w.cell? ⟨Q.pb,0,none⟩=some (.pointer (some ⟨Q.hbk,0,none⟩)):=h.play.cell rfl
  have c1:w.cell? ⟨Q.pb,1,none⟩=some (.int .i64 Q.m):=h.play.cell rfl
  have d0:w.drew.cell? ⟨Q.pb,0,none⟩=some (.pointer (some ⟨Q.hbk,0,none⟩)):=c0
  have d1:w.drew.cell? ⟨Q.pb,1,none⟩=some (.int .i64 Q.m):=c1
  have hn6:(n:Int)<6:=by omega
  have HW:Hid (Calls Pz.prog 47 #[.pointer (some ⟨Q.hbk,0,none⟩),.int .i64 Q.m] w.drew fun e w2=>e=.returned (.tuple #[.int .i64 n,.int .i64 0])∧(w2.cell? ⟨Q.pb,0,none⟩=some (.pointer (some ⟨Q.hbk,0,none⟩))∧w2.cell? ⟨Q.pb,1,none⟩=some (.int .i64 Q.m))∧∃ b lv,Hid ((∃ f2,PGo w2 (Nw D w.heap.size) { Q with M:=Q.M.more b lv } f2)∧Keep D w w2)):=by
   have hd:=h.on (w':=w.drew) fun k _ _=>rfl
   obtain ⟨g2,hM2⟩:=hd.mat
   have hnr:Q.hbk≠Q.rb:=h.ne h.fho h.fro (by simp)
   refine (hwatch_at (wbs:=Q.M.ws.map (·.b)) hd.room hd.host hM2 hd.ok.lock (fun e=>h.ne e.1 h.fho (by simp) rfl) hnr (by simp;omega) (by omega)).mono ?_
   rintro e w2 ⟨he,b,lv,g3,hM3,hho,hk,-⟩
   obtain ⟨f3,h3,hk3⟩:=hd.hosted hM3 hho hk
   have hb:=h3.play
   rw[List.length_map,← hnw]at he
   exact ⟨he,⟨hb.cell rfl,hb.cell rfl⟩,b,lv,⟨f3,h3⟩,⟨hk3.os,hk3.tape,hk3.output,hk3.size,hk3.block⟩⟩
  obtain ⟨ui,hui⟩:∃ i,Pz.prog.info? 9=some i:=⟨_,rfl⟩
  have iz:ui.zero=some (.string ⟨#[]⟩):=by
   have:(Pz.prog.info? 9).bind (·.zero)=some (.string ⟨#[]⟩):=by kernel_rfl
   rw[hui]at this;exact this
  have is1:ui.size=1:=by
   have:(Pz.prog.info? 9).map (·.size)=some 1:=by kernel_rfl
   rw[hui]at this;exact Option.some.inj this
  have ib:ui.bytes=16:=by
   have:(Pz.prog.info? 9).map (·.bytes)=some 16:=by kernel_rfl
   rw[hui]at this;exact Option.some.inj this
  obtain ⟨uj,huj⟩:∃ i,Pz.prog.info? 3=some i:=⟨_,rfl⟩
  have jz:uj.zero=some (.int .i64 0):=by
   have:(Pz.prog.info? 3).bind (·.zero)=some (.int .i64 0):=by kernel_rfl
   rw[huj]at this;exact this
  have js1:uj.size=1:=by
   have:(Pz.prog.info? 3).map (·.size)=some 1:=by kernel_rfl
   rw[huj]at this;exact Option.some.inj this
  have jb:uj.bytes=8:=by
   have:(Pz.prog.info? 3).map (·.bytes)=some 8:=by kernel_rfl
   rw[huj]at this;exact Option.some.inj this
  have HOk:=(show Hid _ from h.ok)
  have HSN:Hid (Q.seen.length=n):=hn.symm
  have HNS:Hid (Q.since.length=n):=hns
  have HES:=(show Hid _ from esv)
  have HEN:=(show Hid _ from env)
  rw[← hn]at HES
  rw[hns]at HEN
  clear h hM hsn hsi hn hnw hns esv env
  go_enter Pz.func21,Tryz.ntmps21
  go_wp2_with fail
  go_region_held3 (fun w'=>w'.cell? ⟨Q.pb,0,none⟩=some (.pointer (some ⟨Q.hbk,0,none⟩))∧w'.cell? ⟨Q.pb,1,none⟩=some (.int .i64 Q.m)) (first|(with_reducible assumption)|(refine ⟨?_,?_⟩<;>(with_reducible assumption))|go_keep) (first|(go_at_call 47;refine Calls.mono HW.out ?_;rintro e w2 ⟨rfl,hqs,b,lv,HQ⟩))
  obtain ⟨⟨f2,h2⟩,hk2⟩:=HQ.out
  have e8:w2.cell? ⟨Q.pb,8,none⟩=some (.slice sa n scap):=by rw[← HES.out];exact h2.play.cell rfl
  have z8:w2.frozen? ⟨Q.pb,8,none⟩=false:=h2.play.free 8
  have hpl2:Q.pb<w2.heap.size:=h2.play.lt
  have hr2:RowAt w2 9 1 (.slice sa n scap) n (Q.seen.map .string):=by
   have:=(h2.parts.part .se).1
   rw[show (PSt.sv { Q with M:=Q.M.more b lv })=Q.sv from rfl,HES.out,show (PSt.seen { Q with M:=Q.M.more b lv })=Q.seen from rfl,HSN.out]at this
   exact this
  have hnp:(Value.slice sa n scap).ownBlock≠some Q.pb:=fun e=>by
   rw[← HES.out]at e
   have:=h2.parts.apart _ _ _ ((h2.parts.part .se).2 _ e) h2.fpl
   cases this
  have HR2:=(show Hid _ from hr2)
  have H2:=(show Hid _ from h2)
  have HK2:=(show Hid _ from hk2)
  clear h2 hk2 hr2 HQ HW hqs
  go_wp2_with (at_builtin;refine wpList_append_own_at _ rfl _ _ 34 rfl 0 9 ui _ 1 16 ((Pz.gUnderlying 34).trans Tryz.underlying34) hui iz is1 ib rfl (by decide) _ _ _ rfl (RowAt.alloc HR2.out _) ⟨w2.heap.size,0,none⟩ 1 1 [.string ⟨#[]⟩] rfl rfl ?c1 ?c2 ?c3 ?c4 ?c5 ?_)
  case c1=>intro j x hj;cases j with
   | zero=>cases hj;exact new_cell w2 _ _
   | succ j=>simp at hj
  case c2=>simp[Value.oneCell']
  case c3=>unfold maxLen;omega
  case c4=>omega
  case c5=>exact Nat.zero_le _
  intro v' w4 hown hg hnn hob
  have hr4:RowAt w4 9 1 v' (n+1) (Q.seen.map .string++[.string ⟨#[]⟩]):=hown
  have hz2:(w2.alloc (Obj.cells #[Value.string ⟨#[]⟩] 9)).heap.size=w2.heap.size+1:=by simp
  have e4:w4.heap[Q.pb]? = w2.heap[Q.pb]?:=(hg.block Q.pb (by rw[hz2];omega) (fun e=>hnp e.symm)).trans (Below.heap_alloc _ _ _ hpl2)
  have d8:=(World.cell?_of_block (a:=⟨Q.pb,8,none⟩) e4).trans e8
  have dz:=(World.frozen?_of_block (a:=⟨Q.pb,8,none⟩) e4).trans z8
  have HG:Hid ((∃ f5,PGo (w4.setCell ⟨Q.pb,8,none⟩ v') (Nw D w.heap.size) { Q with M:=Q.M.more b lv,sv:=v',seen:=Q.seen++[⟨#[]⟩] } f5)∧Keep D w (w4.setCell ⟨Q.pb,8,none⟩ v')):=by
   obtain ⟨f5,h5,hk5⟩:=H2.out.grow (Q':={ Q with M:=Q.M.more b lv,sv:=v',seen:=Q.seen++[⟨#[]⟩] }) (i:=.se) (ci:=8) (x:=.string ⟨#[]⟩) (v:=.slice sa n scap) (n:=n) (xs:=Q.seen.map .string) (e:=9) (by simp) (by
    show rowA 9 1 Q.sv Q.seen.length (Q.seen.map .string)=_
    rw[HES.out,HSN.out]) (by
    show rowA 9 1 v' (Q.seen++[(⟨#[]⟩:ByteArray)]).length ((Q.seen++[(⟨#[]⟩:ByteArray)]).map .string)=_
    rw[List.length_append,HSN.out,List.map_append]
    rfl) rfl (fun j h1 h2=>by cases j<;>first|rfl|exact absurd rfl h1|exact absurd rfl h2) hg hr4 (by rw[hz2];exact hob)
   exact ⟨⟨f5,h5.own fun k hd _=>hd.elim id fun x=>.inr (Nat.le_trans HK2.out.size x)⟩,HK2.out.nw hk5⟩
  obtain ⟨g4,cap4,rfl,-,-,-,-,-⟩:=hr4.form (by omega)
  clear hown hg hnn hob hr4 H2 HR2 HK2 e4 e8 z8 hnp
  go_wp2_with fail
  obtain ⟨⟨f5,h5⟩,hk5⟩:=HG.out
  obtain ⟨w5,hw5⟩:∃ x,x=w4.setCell ⟨Q.pb,8,none⟩ (.slice (some ⟨g4,0,none⟩) (n+1) cap4):=⟨_,rfl⟩
  rw[← hw5]at h5 hk5 ⊢
  have x9:w5.drew.cell? ⟨Q.pb,9,none⟩=some (.slice na n ncap):=by rw[← HEN.out];exact h5.play.cell rfl
  have x10:w5.drew.cell? ⟨Q.pb,10,none⟩=some (.int .i64 Q.turns):=h5.play.cell rfl
  have z9:w5.drew.frozen? ⟨Q.pb,9,none⟩=false:=h5.play.free 9
  have hl5:Q.pb<w5.drew.heap.size:=h5.play.lt
  have y9:(w5.alloc (.cells #[.int .i64 Q.turns] 3)).drew.cell? ⟨Q.pb,9,none⟩=some (.slice na n ncap):=(World.cell?_of_block (w:=w5.drew) (Below.heap_alloc w5.drew _ _ hl5)).trans x9
  have y10:(w5.alloc (.cells #[.int .i64 Q.turns] 3)).drew.cell? ⟨Q.pb,10,none⟩=some (.int .i64 Q.turns):=(World.cell?_of_block (w:=w5.drew) (Below.heap_alloc w5.drew _ _ hl5)).trans x10
  have yz9:(w5.alloc (.cells #[.int .i64 Q.turns] 3)).drew.frozen? ⟨Q.pb,9,none⟩=false:=(World.frozen?_of_block (w:=w5.drew) (Below.heap_alloc w5.drew _ _ hl5)).trans z9
  have hr5:RowAt w5.drew 3 1 (.slice na n ncap) n (Q.since.map fun n:Nat=>.int .i64 (n:Int)):=by
   have:=(h5.parts.part .si).1.same (w':=w5.drew) fun k _=>rfl
   rw[show (PSt.nv { Q with M:=Q.M.more b lv,sv:=.slice (some ⟨g4,0,none⟩) (n+1) cap4,seen:=Q.seen++[⟨#[]⟩] })=Q.nv from rfl,HEN.out,show (PSt.since { Q with M:=Q.M.more b lv,sv:=.slice (some ⟨g4,0,none⟩) (n+1) cap4,seen:=Q.seen++[⟨#[]⟩] })=Q.since from rfl,HNS.out]at this
   exact this
  have HR5:=(show Hid _ from hr5)
  have hnp:(Value.slice na n ncap).ownBlock≠some Q.pb:=fun e=>by
   rw[← HEN.out]at e
   have:=h5.parts.apart _ _ _ ((h5.parts.part .si).2 _ e) h5.fpl
   cases this
  have HTk:Hid (∀ (w6:World) (v':Value),(w5.drew.alloc (.cells #[.int .i64 Q.turns] 3)).grownBy w6 (Value.slice na n ncap).ownBlock→RowAt w6 3 1 v' (n+1) ((Q.since.map fun n:Nat=>.int .i64 (n:Int))++[.int .i64 Q.turns])→(v'.ownBlock=(Value.slice na n ncap).ownBlock∨v'.ownBlock=some (w5.drew.alloc (.cells #[.int .i64 Q.turns] 3)).heap.size)→(w6.setCell ⟨Q.pb,9,none⟩ v').cell? ⟨Q.pb,8,none⟩=some (.slice (some ⟨g4,0,none⟩) (n+1) cap4)∧Hid (WatchK w D Q (.returned (.bool true)) (w6.setCell ⟨Q.pb,9,none⟩ v'))):=fun w6 v' hg hr hob=>by
   have h5d:=PGo.on (w':=w5.drew) h5 fun k _ _=>rfl
   obtain ⟨f7,h7,hk7⟩:=h5d.grow (Q':=Q.watched b lv (.slice (some ⟨g4,0,none⟩) (n+1) cap4) v') (i:=.si) (ci:=9) (x:=.int .i64 Q.turns) (v:=.slice na n ncap) (n:=n) (xs:=Q.since.map fun n:Nat=>.int .i64 (n:Int)) (e:=3) (by simp) (by
    show rowA 3 1 Q.nv Q.since.length (Q.since.map fun n:Nat=>.int .i64 (n:Int))=_
    rw[HEN.out,HNS.out]) (by
    show rowA 3 1 v' (Q.since++[Q.turns]).length ((Q.since++[Q.turns]).map fun n:Nat=>.int .i64 (n:Int))=_
    rw[List.length_append,HNS.out,List.map_append]
    rfl) rfl (fun j h1 h2=>by cases j<;>first|rfl|exact absurd rfl h1|exact absurd rfl h2) hg hr hob
   have hkd:Keep D w w5.drew:=hk5.drew
   refine ⟨h7.play.cell rfl,rfl,hkd.nw hk7,.inr ⟨hw6,b,lv,.slice (some ⟨g4,0,none⟩) (n+1) cap4,v',f7,?_⟩⟩
   exact (h7.own fun k hd _=>hd.elim id fun x=>.inr (Nat.le_trans hkd.size x)).whole (HOk.out.watched b lv _ _ hw6)
  clear HG h5 hk5 hr5 hw5 HOk
  have hn1:IntKind.i64.wrap (((n+1:Nat):Int)-1)=n:=by simp[IntKind.wrap,IntKind.bits,IntKind.signed];omega
  go_region_law (first
   | (refine step_append_row (v:=.slice na n ncap) (n:=n) (xs:=Q.since.map fun n:Nat=>.int .i64 (n:Int)) (ad:=⟨w5.heap.size,0,none⟩) (c:=1) (u:=.int .i64 Q.turns) rfl (.tmp 36) (.tmp 41) 25 rfl 3 uj (.int .i64 0) 8 ((Pz.gUnderlying 25).trans Tryz.underlying25) huj jz js1 jb rfl rfl (RowAt.alloc HR5.out _) rfl (new_cell w5.drew _ _) rfl (by omega) (by decide) ?_;intro v' w6 hr6 hg6 hb6;obtain ⟨g6,cap6,rfl,hv6⟩:=hr6.slice4;have HSS:=(show Hid _ from HTk.out w6 _ hg6 hr6 hb6);have c6:w6.cell? ⟨Q.pb,9,none⟩=some (.slice na n ncap):=(World.cell?_of_block (w:=w5.drew.alloc (.cells #[.int .i64 Q.turns] 3)) (hg6.block Q.pb (Nat.lt_trans hl5 (by simp)) (fun e=>hnp e.symm))).trans y9;have f6:w6.frozen? ⟨Q.pb,9,none⟩=false:=(World.frozen?_of_block (w:=w5.drew.alloc (.cells #[.int .i64 Q.turns] 3)) (hg6.block Q.pb (Nat.lt_trans hl5 (by simp)) (fun e=>hnp e.symm))).trans yz9;clear hr6 hg6 hb6)
   | (go_simp;go_wp2_with fail))
  all_goals
   obtain ⟨xx8,HS4⟩:=HSS.out
   go_wp2_with fail
   go_ret
   exact HS4.out
 ·have hs6:(Q.seen.length:Int)=6:=by omega
  have HP:=(show Hid _ from h)
  clear hM h
  go_enter Pz.func21,Tryz.ntmps21
  go_wp2_with fail
  go_ret
  exact ⟨rfl,Keep.refl _ _,.inl ⟨by omega,f,HP.out.own fun k hd _=>.inl hd⟩⟩
end
end Go.Proofs.YtdianedehhecoaaGreatDoor
/- A play tells all its watchers all; the bytes of turns are cut. -/
namespace Go.Proofs.YtdianedehhecoaaGreatDoor
open Go.RowKit
def PA (w:World)(D:Nat→Prop)(pb:Nat)(sd:Int)(P:Nat)(T:List (List RC))(Q:PSt):Prop:=(∃ f,PG w D Q f)∧Hist sd P Q T∧Q.pb=pb∧Q.since≠[]
section
variable {w w':World} {D:Nat→Prop} {Q:PSt} {f:PIx→Nat→Prop} {sd:Int} {P pb:Nat} {T:List (List RC)}
end
def endOf (T:List (List RC))(k:Nat):Nat:=(turnsB (T.take k)).size
def endsV (T:List (List RC))(k:Nat):List Value:=(List.range k).map fun i=>.int .i64 (endOf T (i+1):Nat)
structure CutAt (w wr:World)(T:List (List RC))(k:Nat)(v:Value):Prop where
 row:RowAt wr 3 1 v k (endsV T k)
 own:∀ j,v.ownBlock=some j→w.heap.size≤j
 below:Below w.heap.size w wr
end Go.Proofs.YtdianedehhecoaaGreatDoor
/- A new match as a match that goes; a new play. -/
namespace Go.Proofs.YtdianedehhecoaaGreatDoor
open Go.RowKit
section
variable {w w':World} {lo mb:Nat} {sd:Int} {P sb hb cap tb:Nat} {gv uv:Value} {bs:List Nat} {g:Nat} {pbs:List Nat}
def newM (mb:Nat)(sd:Int)(P sb hb cap tb:Nat)(gv uv:Value)(bs pbs:List Nat):MSt:=⟨0,mb,sb,tb,startTo sd P,gv,uv,bs,.slice (some ⟨hb,0,none⟩) 1 cap,[hash16 (bytesF (startTo sd P))],.slice none 0 0,pbs.map fun b=>⟨b,0,.slice none 0 0,[]⟩,[]⟩
theorem MParts.goes (h:MParts w 0 lo mb sd P sb hb cap tb gv uv bs g pbs)(hn:pbs.length=P)(p2:2≤P)(p4:P≤4):∃ f,MG w (fun k=>lo≤k) (newM mb sd P sb hb cap tb gv uv bs pbs) f:=by
 have hgD:∀ i,i<P→pbs.getD i 0∈pbs:=fun i hi=>by
  rw[show pbs.getD i 0=pbs[i]'(by omega) by simp[List.getD,show i<pbs.length by omega]]
  exact List.getElem_mem _
 have hinj:∀ i j,i<P→j<P→pbs.getD i 0=pbs.getD j 0→i=j:=fun i j hi hj e=>by
  have h1:=(h.players i (by omega)).cell (i:=0) rfl
  have h2:=(h.players j (by omega)).cell (i:=0) rfl
  rw[e]at h1
  have:=h1.symm.trans h2
  injection this with this
  injection this with _ this
  omega
 have hps:∀ i,(newM mb sd P sb hb cap tb gv uv bs pbs).ps[i]? = if i<P then some ⟨pbs.getD i 0,0,.slice none 0 0,[]⟩ else none:=fun i=>by
  simp only[newM,List.getElem?_map]
  by_cases hi:i<P
  ·rw[if_pos hi,List.getElem?_eq_getElem (show i<pbs.length by omega)]
   simp[List.getD,show i<pbs.length by omega]
  ·rw[if_neg hi,List.getElem?_eq_none (by omega)]
   rfl
 refine ⟨fun x k=>(x=.m∧k=mb)∨(x=.s∧lo≤k∧k≠mb∧k≠tb∧k≠hb∧k ∉ pbs)∨(x=.h∧k=hb)∨(x=.t∧k=tb)∨∃ i,x=.p i∧i<P∧k=pbs.getD i 0,⟨?_,fun x=>?_⟩,?_,?_⟩
 ·have hp:∀ i,i<P→pbs.getD i 0≠mb∧pbs.getD i 0≠tb∧pbs.getD i 0≠hb∧pbs.getD i 0∈pbs:=fun i hi=>⟨(h.lp _ (hgD i hi)).2.1,(h.lp _ (hgD i hi)).2.2.1,(h.lp _ (hgD i hi)).2.2.2,hgD i hi⟩
  have d1:=h.d1
  have d2:=h.d2
  have d3:=h.d3
  rintro x y k (⟨rfl,ha⟩|⟨rfl,ha⟩|⟨rfl,ha⟩|⟨rfl,ha⟩|⟨i,rfl,hi,ha⟩) (⟨rfl,hb'⟩|⟨rfl,hb'⟩|⟨rfl,hb'⟩|⟨rfl,hb'⟩|⟨j,rfl,hj,hb'⟩)<;>first
   | rfl
   | (exfalso;omega)
   | (exfalso;exact hb'.2.1 ha)
   | (exfalso;exact ha.2.1 hb')
   | (exfalso;exact hb'.2.2.1 ha)
   | (exfalso;exact ha.2.2.1 hb')
   | (exfalso;exact hb'.2.2.2.1 ha)
   | (exfalso;exact ha.2.2.2.1 hb')
   | (exfalso;exact (hp j hj).1 (hb'.symm.trans ha))
   | (exfalso;exact (hp i hi).1 (ha.symm.trans hb'))
   | (exfalso;exact (hp j hj).2.1 (hb'.symm.trans ha))
   | (exfalso;exact (hp i hi).2.1 (ha.symm.trans hb'))
   | (exfalso;exact (hp j hj).2.2.1 (hb'.symm.trans ha))
   | (exfalso;exact (hp i hi).2.2.1 (ha.symm.trans hb'))
   | (exfalso;exact ha.2.2.2.2 (by rw[hb'];exact (hp j hj).2.2.2))
   | (exfalso;exact hb'.2.2.2.2 (by rw[ha];exact (hp i hi).2.2.2))
   | (rw[hinj i j hi hj (ha.symm.trans hb')])
 ·cases x with
  | m=>exact ⟨.inl ⟨rfl,rfl⟩,by
    have hc:=h.cells
    show BlkAt w mb [.int .i32 0,.int .u32 0,ptrV sb,.slice (some ⟨hb,0,none⟩) 1 cap,.slice (some ⟨tb,0,none⟩) (pbs.map fun b=>(⟨b,0,.slice none 0 0,[]⟩:Pl)).length (pbs.map fun b=>(⟨b,0,.slice none 0 0,[]⟩:Pl)).length,.bool false,.slice none 0 0] _
    rw[List.length_map,hn]
    exact hc⟩
  | s=>exact h.state.own fun k ho _=>.inr (.inl ⟨rfl,ho⟩)
  | h=>exact ⟨h.row,fun k e=>by cases e;exact .inr (.inr (.inl ⟨rfl,rfl⟩))⟩
  | t=>exact ⟨.inr (.inr (.inr (.inl ⟨rfl,rfl⟩))),by
    have hs:=h.seats
    show BlkAt w tb ((pbs.map fun b=>(⟨b,0,.slice none 0 0,[]⟩:Pl)).map fun p=>ptrV p.b) _
    rw[List.map_map]
    unfold seatV at hs
    rw[hn,Nat.sub_self,List.replicate_zero,List.append_nil]at hs
    exact hs⟩
  | l=>exact ⟨⟨rfl,.inl ⟨rfl,rfl⟩⟩,fun k e=>by cases e⟩
  | p i =>
   simp only[MSt.A,hps i]
   by_cases hi:i<P
   ·rw[if_pos hi]
    exact ⟨.inr (.inr (.inr (.inr ⟨i,rfl,hi,rfl⟩))),h.players i (by omega)⟩
   ·rw[if_neg hi]
    trivial
  | q i =>
   simp only[MSt.A,hps i]
   by_cases hi:i<P
   ·rw[if_pos hi]
    exact ⟨⟨rfl,.inl ⟨rfl,rfl⟩⟩,fun k e=>by cases e⟩
   ·rw[if_neg hi]
    trivial
  | w j=>trivial
  | u j=>trivial
 ·rintro x k (⟨rfl,rfl⟩|⟨rfl,hk⟩|⟨rfl,rfl⟩|⟨rfl,rfl⟩|⟨i,rfl,hi,rfl⟩) _
  ·exact h.lm
  ·exact hk.1
  ·exact h.lh
  ·exact h.lt
  ·exact (h.lp _ (hgD i hi)).1
 ·refine ⟨⟨g,h.ub⟩,startTo_inv sd P p2 p4,by simp[newM];omega,by show 0≤(startTo sd P).turn∧(startTo sd P).turn≤1000;rw[(startTo_ore sd P).2];omega,fun p hp=>?_,by simp[newM]⟩
  obtain ⟨b,-,rfl⟩:=List.mem_map.1 hp
  exact ⟨Nat.zero_le _,fun c hc=>(List.not_mem_nil hc).elim,fun _=>rfl,Int.le_refl _⟩
def playVm (hbk m:Nat)(sd:Int)(P:Nat):List Value:=[.pointer (some ⟨hbk,0,none⟩),.int .i64 m,.int .i64 sd,.int .i64 P,.slice none 0 0,.slice none 0 0,.slice none 0 0,.slice none 0 0,.slice none 0 0,.slice none 0 0,.int .i64 0,.bool false]
def BAtK (W:World)(hbk rb pb:Nat)(sd:Int)(P:Nat)(ms:List Nat)(m n:Nat):Prop :=
 ∃ lo' mb sb hb cap tb gv uv bs g pbs,pbs.length=n∧hbk<lo'∧rb<lo'∧pb<lo'∧lo'≤W.heap.size∧MParts W 0 lo' mb sd P sb hb cap tb gv uv bs g pbs∧BlkAt W hbk (hostV (ms.length+1:Nat) rb) 120∧BlkAt W rb (roomsV (ms++[mb])) 125∧BlkAt W pb (playVm hbk m sd P) 37
def HO (W:World)(hbk rb pb:Nat)(sd:Int)(P:Nat)(ms:List Nat)(m:Nat):Prop :=
 BlkAt W hbk (hostV ms.length rb) 120∧BlkAt W rb (roomsV ms) 125∧BlkAt W pb (playVm hbk m sd P) 37
def newQ (M:MSt)(hbk rb pb:Nat)(ms:List Nat)(sd:Int):PSt:=⟨M,hbk,rb,pb,ms,sd,fun _=>⟨.slice none 0 0,[]⟩,.slice none 0 0,[],.slice none 0 0,[],0,false⟩
end
section
variable {W w w0:World} {N hbk rb pb:Nat} {sd:Int} {P n m:Nat} {ms:List Nat}
theorem BAtK.ho (h:BAtK W hbk rb pb sd P ms m n):∃ mb,HO W hbk rb pb sd P (ms++[mb]) m:=by
 obtain ⟨lo',mb,sb,hb',cap,tb,gv,uv,bs,g,pbs,h1,h2,h3,h4,h5,h6,h7,h8,h9⟩:=h
 exact ⟨mb,by rw[List.length_append];exact h7,h8,h9⟩
theorem BAtK.play (h:BAtK W hbk rb pb sd P ms m n):BlkAt W pb (playVm hbk m sd P) 37:=by
 obtain ⟨lo',mb,sb,hb',cap,tb,gv,uv,bs,g,pbs,h1,h2,h3,h4,h5,h6,h7,h8,h9⟩:=h
 exact h9
theorem createK (h:HO W hbk rb pb sd P ms m)(hms:ms.length<8)(d1:hbk≠rb)(d2:pb≠hbk)(d3:pb≠rb)(p2:2≤P)(p4:P≤4)(s0:0≤sd)(s1:sd≤999)(hB:Below N w0 W)(hC:∀ W,Below N w0 W→Corners W∧W.cell? ⟨4,15,none⟩=some (.int .u8 4))(l1:N≤hbk)(l2:N≤rb) :
  Calls Pz.prog 32 #[.pointer (some ⟨hbk,0,none⟩),.int .i64 sd,.int .i64 P] W fun e w'=>e=.returned (.tuple #[.int .i64 ms.length,.int .i64 0])∧(w'.cell? ⟨pb,2,none⟩=some (.int .i64 sd)∧w'.cell? ⟨pb,3,none⟩=some (.int .i64 P))∧Hid (BAtK w' hbk rb pb sd P ms m 0∧Below N w0 w'):=by
 obtain ⟨hh,hr,hp⟩:=h
 refine (hcreate_at hms sd P hh hr d1 p2 p4 s0 s1 hB hC l1 l2).mono fun e w' ⟨he,hM,hb,hk⟩=>?_
 have hpl:=hp.lt
 have hp':BlkAt w' pb (playVm hbk m sd P) 37:=hp.same (hk.block _ hpl (by rintro (h|h)<;>omega))
 obtain ⟨lo',mb,sb,hb',cap,tb,gv,uv,bs,g,pbs,h1,h2,h3,h4,h5,h6,h7,h8⟩:=hM
 exact ⟨he,⟨hp'.cell rfl,hp'.cell rfl⟩,⟨lo',mb,sb,hb',cap,tb,gv,uv,bs,g,pbs,h1,h3,h4,by omega,h5,h6,h7,h8,hp'⟩,hB.trans hb⟩
theorem BAtK.setM (h:BAtK W hbk rb pb sd P ms m n)(d2:pb≠hbk)(d3:pb≠rb)(m':Nat):BAtK (W.setCell ⟨pb,1,none⟩ (.int .i64 m')) hbk rb pb sd P ms m' n:=by
 obtain ⟨lo',mb,sb,hb',cap,tb,gv,uv,bs,g,pbs,h1,h2,h3,h4,h5,h6,h7,h8,h9⟩:=h
 exact ⟨lo',mb,sb,hb',cap,tb,gv,uv,bs,g,pbs,h1,h2,h3,h4,by simpa using h5,h6.on (fun k hk _=>Below.heap_setCell W ⟨pb,1,none⟩ _ k (by show k≠pb;omega)),h7.other (Ne.symm d2),h8.other (Ne.symm d3),h9.set 1 _⟩
theorem joinK (h:BAtK W hbk rb pb sd P ms m n)(hms:ms.length<8)(p4:P≤4)(hn:n<P)(hN:N≤hbk)(hB:Below N w W) :
  Calls Pz.prog 33 #[.pointer (some ⟨hbk,0,none⟩),.int .i64 ms.length,.string ⟨#[(97+n).toUInt8]⟩] W fun e w'=>e=.returned (.tuple #[.int .i64 n,.int .i64 0])∧BAtK w' hbk rb pb sd P ms m (n+1)∧Below N w w':=by
 obtain ⟨lo',mb,sb,hb',cap,tb,gv,uv,bs,g,pbs,rfl,h2,h3,h4,h5,h6,h7,h8,h9⟩:=h
 have hR:HRm W hbk rb ms.length mb:=⟨h7.cell rfl,h8.cell (roomsV_at _ (by simp)),hms⟩
 refine (hjoin_gen hR h6.cells rfl (mjoin_any h6 p4 hn h5)).mono fun e w' ⟨he,b,hM,hb,hz⟩=>⟨he,⟨lo',mb,sb,hb',cap,tb,gv,uv,bs,g,pbs++[b],by simp,h2,h3,h4,Nat.le_trans h5 hz,hM,h7.same (hb.block _ h2),h8.same (hb.block _ h3),h9.same (hb.block _ h4)⟩,hB.trans (hb.mono (by omega))⟩
theorem BAtK.begun (h:BAtK W hbk rb pb sd P ms ms.length P)(hms:ms.length<8)(p2:2≤P)(p4:P≤4)(d1:hbk≠rb)(d2:pb≠hbk)(d3:pb≠rb)(l1:N≤hbk)(l2:N≤rb)(l3:N≤pb):∃ Q f,PG W (fun k=>N≤k) Q f∧Hist sd P Q []∧Q.pb=pb∧Q.since=[]∧Q.hbk=hbk∧Q.m=ms.length∧∀ i,(Q.tk i).bs=[]:=by
 obtain ⟨lo',mb,sb,hb',cap,tb,gv,uv,bs,g,pbs,h1,h2,h3,h4,h5,h6,h7,h8,h9⟩:=h
 obtain ⟨f,hf⟩:=h6.goes h1 p2 p4
 have hpl:(newM mb sd P sb hb' cap tb gv uv bs pbs).ps.length=P:=by simp[newM,h1]
 refine ⟨newQ (newM mb sd P sb hb' cap tb gv uv bs pbs) hbk rb pb (ms++[mb]) sd,fun x k=>(x=.mt∧lo'≤k)∨(x=.ho∧k=hbk)∨(x=.ro∧k=rb)∨(x=.pl∧k=pb),⟨⟨?_,fun x=>?_⟩,?_,?_⟩,?_,rfl,rfl,rfl,by simp[PSt.m,newQ],fun _=>rfl⟩
 ·rintro x y k (⟨rfl,ha⟩|⟨rfl,ha⟩|⟨rfl,ha⟩|⟨rfl,ha⟩) (⟨rfl,hb⟩|⟨rfl,hb⟩|⟨rfl,hb⟩|⟨rfl,hb⟩)<;>first|rfl|(exfalso;omega)
 ·cases x with
  | mt=>exact ⟨f,hf.own fun k hk _=>.inl ⟨rfl,hk⟩⟩
  | ho=>exact ⟨.inr (.inl ⟨rfl,rfl⟩),by
    show BlkAt W hbk (hostW (ms++[mb]).length rb []) _
    rw[List.length_append]
    exact h7⟩
  | ro=>exact ⟨.inr (.inr (.inl ⟨rfl,rfl⟩)),h8⟩
  | pl=>exact ⟨.inr (.inr (.inr ⟨rfl,rfl⟩)),by
    show BlkAt W pb (PSt.cells (newQ (newM mb sd P sb hb' cap tb gv uv bs pbs) hbk rb pb (ms++[mb]) sd)) _
    have e:PSt.cells (newQ (newM mb sd P sb hb' cap tb gv uv bs pbs) hbk rb pb (ms++[mb]) sd)=playVm hbk ms.length sd P:=by
     unfold PSt.cells PSt.m playVm
     rw[show (newQ (newM mb sd P sb hb' cap tb gv uv bs pbs) hbk rb pb (ms++[mb]) sd).M.ps.length=P from hpl,show (newQ (newM mb sd P sb hb' cap tb gv uv bs pbs) hbk rb pb (ms++[mb]) sd).ms.length-1=ms.length by simp[newQ]]
     rfl
    rw[e]
    exact h9⟩
  | tk i=>exact ⟨⟨rfl,.inl ⟨rfl,rfl⟩⟩,fun k e=>by cases e⟩
  | se=>exact ⟨⟨rfl,.inl ⟨rfl,rfl⟩⟩,fun k e=>by cases e⟩
  | si=>exact ⟨⟨rfl,.inl ⟨rfl,rfl⟩⟩,fun k e=>by cases e⟩
 ·rintro x k (⟨rfl,ha⟩|⟨rfl,ha⟩|⟨rfl,ha⟩|⟨rfl,ha⟩) _<;>(show N≤k;omega)
 ·refine ⟨rfl,by simp[PSt.m,newQ,newM],by simp[newQ];omega,rfl,rfl,by simp[newQ,newM]⟩
 ·refine ⟨rfl,hpl,rfl,rfl,by simp,?_,rfl,fun k hk=>?_,fun k hk=>by simp at hk,fun cs hc=>(List.not_mem_nil hc).elim,fun j u hu=>?_,.inl ⟨rfl,rfl⟩,fun i p hp=>?_,fun cs hc=>(List.not_mem_nil hc).elim,fun cs hc=>(List.not_mem_nil hc).elim,fun _ _=>rfl⟩
  ·show false=overB (startTo sd P)
   rw[begun_over sd P p2 p4]
  ·have:k=0:=by simpa using hk
   subst this
   rfl
  ·have hu:([]:List Wt)[j]? = some u:=hu
   simp at hu
  ·have hp:(pbs.map fun b=>(⟨b,0,.slice none 0 0,[]⟩:Pl))[i]? = some p:=hp
   obtain ⟨b,hb,rfl⟩:=List.mem_map.1 (List.mem_of_getElem? hp)
   exact ⟨rfl,fun b hb=>(List.not_mem_nil hb).elim,rfl,fun c hc=>(List.not_mem_nil hc).elim⟩
end
end Go.Proofs.YtdianedehhecoaaGreatDoor
/- What a play shows, and how a move changes it. Nothing of memory. -/
namespace Go.Proofs.YtdianedehhecoaaGreatDoor
open Go.RowKit
structure Vw where
 S:RS
 hs:List ByteArray
 ps:List (List RC)
 ws:List (List ByteArray)
 seen:List ByteArray
def PSt.vw (Q:PSt):Vw:=⟨Q.M.S,Q.M.hs,Q.M.ps.map (·.cs),Q.M.ws.map (·.ts),Q.seen⟩
def vw0 (sd:Int)(P:Nat):Vw:=⟨startTo sd P,[hash16 (bytesF (startTo sd P))],List.replicate P [],[[]],[⟨#[]⟩]⟩
noncomputable def Vw.tick (V:Vw):Vw:=if overB V.S=true∨V.hs.length=1001 then V else ⟨doF V.S V.ps.flatten,V.hs++[hash16 (bytesF (doF V.S V.ps.flatten))],V.ps.map (fun _=>[]),V.ws.map (·++[sealS V.ps.flatten]),V.seen⟩
noncomputable def Vw.watch (V:Vw):Vw:=if 6≤V.ws.length then V else { V with ws:=V.ws++[[]],seen:=V.seen++[⟨#[]⟩] }
noncomputable def Vw.poll (V:Vw)(j most:Nat):Vw:={ V with ws:=V.ws.set j ((V.ws.getD j []).drop most),seen:=V.seen.set j (V.seen.getD j ⟨#[]⟩++joinB ((V.ws.getD j []).take most)) }
noncomputable def Vw.submit (V:Vw)(i:Nat)(s:ByteArray):Vw:=if overB V.S=true∨(V.ps.getD i []).length=8 then V else { V with ps:=V.ps.set i (V.ps.getD i []++[cmdAt s 0]) }
noncomputable def Vw.move (V:Vw)(P:Nat)(kind c:Int):Vw :=
 if pickF kind 10<2 then V.tick else if pickF kind 10=2 then V.watch else if pickF kind 10=3 then V.poll (pickF c V.seen.length).toNat (pickF (Int.tdiv c 7) 3).toNat else V.submit (pickF c P).toNat (bytesK (pickF c P) (Int.tdiv c 4))
section
variable {sd:Int} {P:Nat} {Q:PSt} {T:List (List RC)}
theorem Hist.vw_begun (h:Hist sd P Q [])(h1:Q.seen.length=Q.M.ws.length)(h2:Q.since.length=Q.M.ws.length)(h3:Q.since=[])(h4:∀ i,(Q.tk i).bs=[])(b:Nat)(lv sv nv:Value):(Q.watched b lv sv nv).vw=vw0 sd P:=by
 have e0:Q.M.ws=[]:=List.eq_nil_of_length_eq_zero (by rw[← h2,h3];rfl)
 have e1:Q.seen=[]:=List.eq_nil_of_length_eq_zero (by rw[h1,e0];rfl)
 have e2:Q.M.S=startTo sd P:=h.state
 have e3:Q.M.hs=[hash16 (bytesF (startTo sd P))]:=by
  have hl:=h.hlen
  have h0:=h.hash 0 (Nat.le_refl _)
  match hs:Q.M.hs,hl,h0 with
  | [x],_,h0 =>
   simp only[hs,List.getElem?_cons_zero,Option.some.injEq]at h0
   rw[h0]
   rfl
 have e4:Q.M.ps.map (·.cs)=List.replicate P []:=by
  rw[List.eq_replicate_iff,List.length_map]
  refine ⟨h.size,fun x hx=>?_⟩
  obtain ⟨p,hp,rfl⟩:=List.mem_map.1 hx
  obtain ⟨i,hi⟩:=List.mem_iff_getElem?.1 hp
  have e:=(h.taken i p hi).1
  rw[h4 i]at e
  simpa using e.symm
 unfold PSt.vw vw0
 simp only[PSt.watched,MSt.more,e0,e1,e2,e3,e4]
 rfl
theorem vw_watched (h:¬ 6≤Q.M.ws.length)(b:Nat)(lv sv nv:Value):(Q.watched b lv sv nv).vw=Q.vw.watch:=by
 unfold Vw.watch
 rw[if_neg (by simpa [PSt.vw] using h)]
 simp[PSt.vw,PSt.watched,MSt.more]
theorem vw_watched6 (h:6≤Q.M.ws.length):Q.vw=Q.vw.watch:=by
 unfold Vw.watch
 rw[if_pos (by simpa [PSt.vw] using h)]
theorem vw_polled {j:Nat}{u:Wt}(hu:Q.M.ws[j]? = some u){s0:ByteArray}(hs:Q.seen[j]? = some s0)(most:Nat)(uv:Value):(Q.polled j u uv most s0).vw=Q.vw.poll j most:=by
 have e1:(Q.M.ws.map (·.ts)).getD j []=u.ts:=by rw[List.getD_eq_getElem?_getD,List.getElem?_map,hu];rfl
 have e2:Q.seen.getD j ⟨#[]⟩=s0:=by rw[List.getD_eq_getElem?_getD,hs];rfl
 unfold PSt.vw Vw.poll
 simp only[e1,e2,PSt.polled,MSt.watches,List.map_set]
theorem vw_full {i:Nat}{p:Pl}(hp:Q.M.ps[i]? = some p)(h:overB Q.M.S=true∨p.cs.length=8)(s:ByteArray):Q.vw=Q.vw.submit i s:=by
 have e1:(Q.M.ps.map (·.cs)).getD i []=p.cs:=by rw[List.getD_eq_getElem?_getD,List.getElem?_map,hp];rfl
 unfold Vw.submit
 rw[if_pos (by simpa only[PSt.vw,e1] using h)]
theorem vw_takes {i:Nat}{p:Pl}(hp:Q.M.ps[i]? = some p)(h1:overB Q.M.S=false)(h2:p.cs.length<8)(s:ByteArray)(b:Nat)(n:Int)(wv:Value)(t:Tk):(PSt.takes { Q with M:=Q.M.plays i ⟨b,n,wv,p.cs++[cmdAt s 0]⟩ } i t).vw=Q.vw.submit i s:=by
 have e1:(Q.M.ps.map (·.cs)).getD i []=p.cs:=by rw[List.getD_eq_getElem?_getD,List.getElem?_map,hp];rfl
 unfold Vw.submit
 rw[if_neg (by
  simp only[PSt.vw,e1]
  rintro (x|x)
  ·rw[h1]at x;cases x
  ·omega)]
 simp only[PSt.vw,PSt.takes,MSt.plays,List.map_set,e1]
theorem Hist.vw_idle (h:Hist sd P Q T)(hi:Q.over=true∨T.length=1000):Q.vw=Q.vw.tick:=by
 unfold Vw.tick
 rw[if_pos (by
  simp only[PSt.vw,← h.over,h.hlen]
  exact hi.imp id fun x=>by omega)]
theorem Hist.vw_tick (h:Hist sd P Q T)(hi:¬ (Q.over=true∨T.length=1000)){M':MSt}(hT:Ticked Q.M M')(t:Nat)(o:Bool):({ Q with M:=M',turns:=t,over:=o }:PSt).vw=Q.vw.tick:=by
 have e:(Q.M.ps.map (·.cs)).flatten=Q.M.turn:=by unfold MSt.turn;rw[List.flatMap_def]
 unfold Vw.tick
 rw[if_neg (by
  simp only[PSt.vw,← h.over,h.hlen]
  exact fun x=>hi (x.imp id fun x=>by omega))]
 simp only[PSt.vw,e]
 rw[hT.hs,hT.S,hT.ps]
 have ew:M'.ws.map (·.ts)=(Q.M.ws.map (·.ts)).map (·++[sealS Q.M.turn]):=by
  refine List.ext_getElem? fun j=>?_
  rw[List.getElem?_map,List.getElem?_map,List.getElem?_map]
  by_cases hj:j<Q.M.ws.length
  ·obtain ⟨v,hv,-,hvt⟩:=hT.ws.at_ j _ (List.getElem?_eq_getElem hj)
   rw[hv,List.getElem?_eq_getElem hj]
   simp only[Option.map_some,hvt,if_pos hj]
  ·rw[List.getElem?_eq_none (show M'.ws.length≤j by rw[hT.ws.len];omega),List.getElem?_eq_none (show Q.M.ws.length≤j by omega)]
   rfl
 rw[ew]
 congr 1
 rw[List.map_map,List.map_map]
 rfl
end
end Go.Proofs.YtdianedehhecoaaGreatDoor