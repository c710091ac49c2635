/- The program's state: what it is, and how it lies in memory. -/
import Derived.Test.YtdianedehhecoaaGreatDoorTBase
import Derived.Laws.StructEq
set_option linter.unusedVariables false
set_option linter.unusedSimpArgs false
set_option maxHeartbeats 4000000
set_option maxRecDepth 100000
namespace Go.Proofs.YtdianedehhecoaaGreatDoor
open Go.RowKit
structure PU where
 num:Int
 own:Int
 kind:Int
 x:Int
 y:Int
 hp:Int
 acted:Bool
def pu0:PU:=⟨0,0,1,0,0,0,false⟩
structure PS where
 turn:Int
 last:Int
 gold:List Int
 ore:List Int
 units:List PU
def PU.cells (u:PU):List Value:=[.int .i64 u.num,.int .i64 u.own,.int .i64 u.kind,.int .i64 u.x,.int .i64 u.y,.int .i64 u.hp,.bool u.acted]
def ptrT (k:Int):TypeId:=if k=1 then 236 else if k=2 then 239 else 346
def strT (k:Int):TypeId:=if k=1 then 238 else if k=2 then 240 else 347
def uVal (u:PU)(b:Nat):Value:=.iface (ptrT u.kind) (.pointer (some ⟨b,0,none⟩))
def uVals (us:List PU)(bs:List Nat):List Value:=List.zipWith uVal us bs
def pCells (S:PS)(gv uv:Value):List Value:=[.int .i64 S.turn,.int .i64 S.last,gv]++S.ore.map (.int .i64)++[uv]
structure PAt (w:World)(O:Nat→Prop)(b:Nat)(S:PS)(gv uv:Value)(bs:List Nat):Prop where
 ore:S.ore.length=64
 blen:bs.length=S.units.length
 st:BlkAt w b (pCells S gv uv) 153
 gold:RowAt w 3 1 gv S.gold.length (S.gold.map (.int .i64))
 units:RowAt w 165 1 uv S.units.length (uVals S.units bs)
 each:∀ i,i<S.units.length→BlkAt w (bs.getD i 0) (S.units.getD i pu0).cells (strT (S.units.getD i pu0).kind)
 kinds:∀ i,i<S.units.length→(S.units.getD i pu0).kind=1∨(S.units.getD i pu0).kind=2∨(S.units.getD i pu0).kind=3
 nodup:bs.Nodup
 ob:O b
 og:∀ k,gv.ownBlock=some k→O k∧k≠b
 ou:∀ k,uv.ownBlock=some k→O k∧k≠b∧gv.ownBlock≠some k
 oe:∀ k,k∈bs→O k∧k≠b∧gv.ownBlock≠some k∧uv.ownBlock≠some k
theorem PAt.cUnits {w:World}{O:Nat→Prop}{b:Nat}{S:PS}{gv uv:Value}{bs:List Nat}(h:PAt w O b S gv uv bs):w.cell? ⟨b,67,none⟩=some uv:=by
 have hl:=h.ore
 refine h.st.cell ?_
 unfold pCells
 rw[List.getElem?_append_right (by simp;omega)]
 simp[hl]
theorem PAt.unit {w:World}{O:Nat→Prop}{b g:Nat}{S:PS}{gv uv:Value}{bs:List Nat}(h:PAt w O b S gv uv bs)(hob:uv.ownBlock=some g) :
  ∃ cap,uv=.slice (some ⟨g,0,none⟩) S.units.length cap∧(∀ i,w.frozen? ⟨g,i,none⟩=false) ∧
   ∀ i,i<S.units.length→w.cell? ⟨g,i,none⟩=some (uVal (S.units.getD i pu0) (bs.getD i 0)):=by
 obtain ⟨cap,he,-,-,hc,hf⟩:=h.units.form2 hob
 refine ⟨cap,he,hf,fun i hi=>hc _ _ ?_⟩
 have hb:=h.blen
 unfold uVals
 rw[List.getElem?_zipWith]
 simp[List.getD,List.getElem?_eq_getElem hi,List.getElem?_eq_getElem (show i<bs.length by omega)]
theorem PAt.below {w w':World}{O:Nat→Prop}{b:Nat}{S:PS}{gv uv:Value}{bs:List Nat}(h:PAt w O b S gv uv bs)(hk:Below w.heap.size w w'):PAt w' O b S gv uv bs :=
 ⟨h.ore,h.blen,h.st.same (hk.block _ h.st.lt),h.gold.same fun k e=>hk.block _ (h.gold.lt e),h.units.same fun k e=>hk.block _ (h.units.lt e),
  fun i hi=>(h.each i hi).same (hk.block _ (h.each i hi).lt),h.kinds,h.nodup,h.ob,h.og,h.ou,h.oe⟩
end Go.Proofs.YtdianedehhecoaaGreatDoor
/- The program's readers of a state: numbered, unitOn. -/
namespace Go.Proofs.YtdianedehhecoaaGreatDoor
open Go.RowKit
theorem meth1 (ub : Nat) (w : World) : (method 449 236 (.pointer (some ⟨ub, 0, none⟩)) "garrison/rules.common").run Pz.prog w = .ok (250, .pointer (some ⟨ub, 0, none⟩)) w := by kernel_rfl
theorem meth2 (ub : Nat) (w : World) : (method 449 239 (.pointer (some ⟨ub, 0, none⟩)) "garrison/rules.common").run Pz.prog w = .ok (250, .pointer (some ⟨ub, 0, none⟩)) w := by kernel_rfl
theorem meth3 (ub : Nat) (w : World) : (method 449 346 (.pointer (some ⟨ub, 0, none⟩)) "garrison/rules.common").run Pz.prog w = .ok (250, .pointer (some ⟨ub, 0, none⟩)) w := by kernel_rfl
theorem common_any (ub:Nat)(w:World) :
  Calls Pz.prog 250 #[.pointer (some ⟨ub,0,none⟩)] w fun e w'=>e=.returned (.pointer (some ⟨ub,0,none⟩))∧w'=w:=by
 go_enter Pz.func250,Tryz.ntmps250
 go_wp2
 go_ret
 exact ⟨rfl,rfl⟩
theorem meth_any (k : Int) (hk : k = 1 ∨ k = 2 ∨ k = 3) (ub : Nat) (w : World) : (method 449 (ptrT k) (.pointer (some ⟨ub, 0, none⟩)) "garrison/rules.common").run Pz.prog w = .ok (250, .pointer (some ⟨ub, 0, none⟩)) w := by
  rcases hk with rfl|rfl|rfl
  · exact meth1 ub w
  · exact meth2 ub w
  · exact meth3 ub w
def findU (p:PU→Bool):List PU→List Nat→Option (PU × Nat)
 | u :: us,b :: bs=>if p u then some (u,b) else findU p us bs
 | _,_=>none
theorem findU_hit (p:PU→Bool)(us:List PU)(bs:List Nat)(k:Nat)(hb:bs.length=us.length)(hk:k<us.length)(hno:∀ j,j<k→p (us.getD j pu0)=false)(hyes:p (us.getD k pu0)=true) :
  findU p us bs=some (us.getD k pu0,bs.getD k 0):=by
 induction us generalizing bs k with
 | nil=>simp at hk
 | cons u us ih =>
  cases bs with
  | nil=>simp at hb
  | cons b bs =>
   cases k with
   | zero =>
    have:p u=true:=by simpa using hyes
    simp[findU,this]
   | succ k =>
    have h1:p u=false:=by simpa using hno 0 (by omega)
    simp only[findU,h1]
    have:=ih bs k (by simpa using hb) (by simpa using hk) (fun j hj=>by simpa using hno (j+1) (by omega)) (by simpa using hyes)
    simpa using this
theorem findU_miss (p:PU→Bool)(us:List PU)(bs:List Nat)(hno:∀ j,j<us.length→p (us.getD j pu0)=false):findU p us bs=none:=by
 induction us generalizing bs with
 | nil=>rfl
 | cons u us ih =>
  cases bs with
  | nil=>rfl
  | cons b bs =>
   have h1:p u=false:=by simpa using hno 0 (by simp)
   simp only[findU,h1]
   exact ih bs (fun j hj=>by simpa using hno (j+1) (by simpa using hj))
theorem noP_succ (p:PU→Bool)(us:List PU)(k:Nat)(h:Hid (∀ j,j<k→p (us.getD j pu0)=false))(hk:p (us.getD k pu0)=false):Hid (∀ j,j<k+1→p (us.getD j pu0)=false):=by
 intro j hj
 by_cases e:j=k
 ·rw[e];exact hk
 ·exact h.out j (by omega)
def numB (n:Int)(u:PU):Bool:=u.num == n
def ifaceOf:Option (PU × Nat)→Value
 | none=>.nilIface
 | some (u,b)=>uVal u b
def ptrOf:Option (PU × Nat)→Value
 | none=>.pointer none
 | some (_,b)=>.pointer (some ⟨b,0,none⟩)
theorem ret_val {a b:Value}(h:a=b):Ending.returned a=.returned b:=by rw [h]
theorem numbered_any {w:World}{O:Nat→Prop}{b g:Nat}{S:PS}{gv uv:Value}{bs:List Nat}(n:Int)(h:PAt w O b S gv uv bs)(hob:uv.ownBlock=some g)(hn:S.units.length≤1000) :
  Calls Pz.prog 140 #[.pointer (some ⟨b,0,none⟩),.int .i64 n] w fun e w'=>e=.returned (ifaceOf (findU (numB n) S.units bs))∧w'=w:=by
 obtain ⟨cap,rfl,-,hc⟩:=h.unit hob
 have hu:=h.cUnits
 have heach:=(show Hid _ from h.each)
 have hk:=(show Hid _ from h.kinds)
 have hbl:=(show Hid _ from h.blen)
 have Hc:=(show Hid _ from hc)
 generalize S.units=us at *
 clear h hob hc
 go_enter Pz.func140,Tryz.ntmps140
 go_wp2
 go_loop [12] (fun i=>∃ k:Nat,k≤us.length∧i=.int .i64 k∧Hid (∀ j,j<k→numB n (us.getD j pu0)=false)) (fun i=>us.length-(intOf i).toNat)
 case atStart=>exact ⟨0,Nat.zero_le _,rfl,fun j hj=>by omega⟩
 case round =>
  obtain ⟨k,hkl,rfl,hno⟩:=hrel
  by_cases hlt:k<us.length
  ·have hcell:=Hc.out k hlt
   have hb:=heach.out k hlt
   have hm:=meth_any _ (hk.out k hlt) (bs.getD k 0)
   have Hhit:=(show Hid _ from findU_hit (numB n) us bs k hbl.out hlt hno.out)
   have Hnx:=(show Hid _ from noP_succ (numB n) us k hno)
   have c0:w.cell? ⟨bs.getD k 0,0,none⟩=some (.int .i64 (us.getD k pu0).num):=hb.cell rfl
   unfold uVal at hcell
   have Hv:Hid (ifaceOf (some (us.getD k pu0,bs.getD k 0))=.iface (ptrT (us.getD k pu0).kind) (.pointer (some ⟨bs.getD k 0,0,none⟩))):=rfl
   clear hb
   generalize us.getD k pu0=u at *
   generalize bs.getD k 0=ub at *
   generalize ptrT u.kind=T at *
   by_cases hyes:u.num=n
   ·have hbe:(u.num == n)=true:=by simp[hyes]
    have HY:Hid (numB n u=true):=hbe
    clear hyes
    go_wp2
    go_ret
    go_light
    refine ⟨ret_val ?_,rfl⟩
    rw[Hhit.out HY.out,Hv.out]
    rfl
   ·have hbe:(u.num == n)=false:=by simp[hyes]
    have HY:Hid (numB n u=false):=hbe
    clear hyes
    go_wp2
    go_round
    case rel=>exact ⟨k+1,by omega,by go_num,Hnx.out HY.out⟩
    case measure=>simp[intOf];omega
  ·have Hmiss:=(show Hid _ from findU_miss (numB n) us bs (fun j hj=>hno.out j (by omega)))
   go_wp2
   go_ret
   exact ⟨by rw[Hmiss.out];rfl,rfl⟩
end Go.Proofs.YtdianedehhecoaaGreatDoor
/- The program's unitOn. -/
namespace Go.Proofs.YtdianedehhecoaaGreatDoor
open Go.RowKit
def onP (x y:Int)(u:PU):Bool:=(u.x == x) && (u.y == y)
theorem cellGuard:Pz.prog.eqGuardType Pz.prog.depth 157=false:=by kernel_rfl
theorem cellEq (a b c d:Int)(W:World):(binOp .eql 157 (.agg #[.int .i64 a,.int .i64 b]) (.agg #[.int .i64 c,.int .i64 d])).run Pz.prog W=.ok (.bool ((a == c) && (b == d))) W:=by
  have h1:Pz.prog.underlying 157=some (.struct (Pz.prog.fieldsOf 157)):=by kernel_rfl
  have h2:Pz.prog.stoodInHeld 157=false:=by kernel_rfl
  obtain ⟨f1, f2, hf, t1, t2, o1, o2, m1, m2⟩ : ∃ f1 f2, (Pz.prog.fieldsOf 157).toList = [f1, f2] ∧ f1.type = 3 ∧ f2.type = 3 ∧ f1.offset = 0 ∧ f2.offset = 1 ∧ f1.name ≠ "_" ∧ f2.name ≠ "_" :=
    ⟨(Pz.prog.fieldsOf 157).toList[0]!,(Pz.prog.fieldsOf 157).toList[1]!,by kernel_rfl,by kernel_rfl,by kernel_rfl,by kernel_rfl,by kernel_rfl,by decide +kernel,by decide +kernel⟩
  rw[run_eql_struct,run_equalIn_struct W 9999 _ _ _ h1 h2,hf]
  simp[Op.eqFields,m1,m2,t1,t2,o1,o2,go_sem]
  by_cases h:a=c<;>by_cases h':b=d<;>simp[h,h']
theorem unitOn_any {w:World}{O:Nat→Prop}{b g:Nat}{S:PS}{gv uv:Value}{bs:List Nat}(x y:Int)(h:PAt w O b S gv uv bs)(hob:uv.ownBlock=some g)(hn:S.units.length≤1000) :
  Calls Pz.prog 255 #[.pointer (some ⟨b,0,none⟩),.agg #[.int .i64 x,.int .i64 y]] w fun e w'=>e=.returned (ptrOf (findU (onP x y) S.units bs))∧Below w.heap.size w w':=by
 obtain ⟨cap,rfl,-,hc⟩:=h.unit hob
 have hu:=h.cUnits
 have heach:=(show Hid _ from h.each)
 have hk:=(show Hid _ from h.kinds)
 have hbl:=(show Hid _ from h.blen)
 have hgl:=h.units.lt hob
 have hbb:=h.st.lt
 have Hc:=(show Hid _ from hc)
 generalize S.units=us at *
 clear h hob hc
 go_enter Pz.func255,Tryz.ntmps255
 go_wp2
 go_loopw [13] (fun i wr=>∃ k:Nat,k≤us.length∧i=.int .i64 k∧Hid (∀ j,j<k→onP x y (us.getD j pu0)=false)∧Below w.heap.size w wr∧wr.cell? ⟨w.heap.size,0,none⟩=some (.int .i64 x)∧wr.cell? ⟨w.heap.size,1,none⟩=some (.int .i64 y)) (fun i _=>us.length-(intOf i).toNat)
 case atStart=>exact ⟨0,Nat.zero_le _,rfl,fun j hj=>by omega,(Below.refl _ _).alloc (Nat.le_refl _) _,by simp,by simp⟩
 case round =>
  obtain ⟨k,hkl,rfl,hno,hbel,bx,by_⟩:=hrel
  by_cases hlt:k<us.length
  ·have hcell:=(hbel.cell (p:=⟨g,k,none⟩) hgl).trans (Hc.out k hlt)
   have hb:=heach.out k hlt
   have hm:=meth_any _ (hk.out k hlt) (bs.getD k 0)
   have Hhit:=(show Hid _ from findU_hit (onP x y) us bs k hbl.out hlt hno.out)
   have Hnx:=(show Hid _ from noP_succ (onP x y) us k hno)
   have c3:=(hbel.cell (p:=⟨bs.getD k 0,3,none⟩) hb.lt).trans (hb.cell (v:=.int .i64 (us.getD k pu0).x) rfl)
   have c4:=(hbel.cell (p:=⟨bs.getD k 0,4,none⟩) hb.lt).trans (hb.cell (v:=.int .i64 (us.getD k pu0).y) rfl)
   unfold uVal at hcell
   have Hv:Hid (ptrOf (some (us.getD k pu0,bs.getD k 0))=.pointer (some ⟨bs.getD k 0,0,none⟩)):=rfl
   have Hbel:Hid (Below w.heap.size w wr):=hbel
   clear hb hbel
   generalize us.getD k pu0=u at *
   generalize bs.getD k 0=ub at *
   generalize ptrT u.kind=T at *
   have hcg:=cellGuard
   have hcq:=cellEq u.x u.y x y
   go_wp2
   go_quiet (fail)
   go_wp2
   ·rename_i hh
    go_ret
    go_light
    have HY:onP x y u=true:=by unfold onP;rw[hh.1,hh.2];rfl
    refine ⟨ret_val ?_,bel_drewN Hbel.out _⟩
    rw[Hhit.out HY,Hv.out]
    rfl
   ·rename_i hh
    go_light
    have HY:onP x y u=false:=by
     unfold onP
     rcases hh with hh|hh
     ·rw[hh];rfl
     ·rw[hh];simp
    exact ⟨⟨k+1,by omega,by go_num,Hnx.out HY,bel_drewN Hbel.out _,bx,by_⟩,by simp[intOf];omega⟩
  ·have Hmiss:=(show Hid _ from findU_miss (onP x y) us bs (fun j hj=>hno.out j (by omega)))
   go_wp2
   go_ret
   exact ⟨by rw[Hmiss.out];rfl,hbel⟩
end Go.Proofs.YtdianedehhecoaaGreatDoor